package dump

import (
	"strings"

	"bourse/api"
	"bourse/order"
	"bourse/varint"
)

const most = 1 << 16 // of accounts, of orders

// Bytes: a dump's.
func (d Dump) Bytes() string {
	var b strings.Builder
	n := d.numbers()
	for _, name := range names {
		b.WriteString(varint.Num(n[name]))
	}
	b.WriteString(varint.Num(uint64(len(d.Accounts))))
	for _, a := range d.Accounts {
		b.WriteString(varint.Num(a.ID))
		b.WriteString(varint.Signed(int64(a.Thing)))
		b.WriteString(varint.Text(order.Money(a.Money)))
	}
	b.WriteString(varint.Num(uint64(len(d.Orders))))
	for _, x := range d.Orders {
		b.WriteString(varint.Num(x.ID))
		b.WriteString(varint.Text(order.Bytes(x)))
	}
	return b.String()
}

// Parse: the dump that bytes are.
func Parse(s string) (Dump, api.Errno) {
	r := varint.Over(s)
	n, e := asked(func(string) (uint64, api.Errno) { return r.Num(), r.Err() })
	if e != api.OK {
		return Dump{}, e
	}
	d, fits := counted(n), true
	d.Accounts = list(r, func() Account {
		id, thing := r.Num(), r.Signed()
		fits = fits && thing == int64(int32(thing))
		return Account{ID: id, Thing: int(thing), Money: text(r, order.ParseMoney)}
	})
	d.Orders = list(r, func() api.Order {
		id := r.Num()
		return text(r, func(s string) (api.Order, api.Errno) { return order.Parse(id, s) })
	})
	// Whatever the reader finds comes ahead of what is too much, or doesn't fit.
	if e := r.End(); e != api.OK {
		return Dump{}, e
	}
	if len(d.Accounts) > most || len(d.Orders) > most {
		return Dump{}, api.ErrMany
	}
	if !fits {
		return Dump{}, api.ErrForm
	}
	return d, api.OK
}

// list: as many things as the next number tells, up to the reader's first error.
func list[T any](r *varint.Reader, next func() T) []T {
	var l []T
	for range r.Num() {
		x := next()
		if r.Err() != api.OK {
			return nil
		}
		l = append(l, x)
	}
	return l
}

// text: what the next text is; if it is none, that is the reader's error.
func text[T any](r *varint.Reader, parse func(string) (T, api.Errno)) T {
	x, e := parse(r.Text(api.MaxValue))
	r.Fail(e)
	return x
}
