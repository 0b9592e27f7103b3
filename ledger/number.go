package ledger

import (
	"math"
	"strconv"

	"bourse/amount"
	"bourse/api"
	"bourse/order"
	"bourse/overlay"
	"bourse/schema"
	"bourse/varint"
)

const (
	last     = 1 << 56 // the greatest number that Next makes
	balances = "a"     // their sort
)

// Number: one that is kept.
func Number(r overlay.Reader, name string) (uint64, api.Errno) {
	k, e := schema.Number(name)
	if e != api.OK {
		return 0, e
	}
	s, there := r.Get(k)
	if !there {
		return 0, api.OK
	}
	bytes := varint.Over(s)
	n := bytes.Num()
	if e := bytes.End(); e != api.OK {
		return 0, e
	}
	return n, api.OK
}

// Set: a number is another one.
func Set(o *overlay.Overlay, name string, n uint64) api.Errno {
	k, e := schema.Number(name)
	if e != api.OK {
		return e
	}
	keep(o, k, varint.Num(n), n != 0)
	return api.OK
}

// Next: a number is one more.
func Next(o *overlay.Overlay, name string) (uint64, api.Errno) {
	n, e := Number(o, name)
	if e != api.OK {
		return 0, e
	}
	if n >= last {
		return 0, api.ErrRange
	}
	return n + 1, Set(o, name, n+1)
}

// Totals: of all balances.
func Totals(r overlay.Reader) (map[int]api.Balance, api.Errno) {
	all := map[int]api.Balance{}
	for p := range r.Range(schema.Under(balances)) {
		x, e := schema.Parse(p.Key)
		if e != api.OK {
			return nil, e
		}
		b, e := order.ParseMoney(p.Value)
		if e != api.OK {
			return nil, e
		}
		if all[x.Kind], e = plus(all[x.Kind], b); e != api.OK {
			return nil, e
		}
	}
	return all, api.OK
}

// plus: two balances together, part by part.
func plus(a, b api.Balance) (api.Balance, api.Errno) {
	free, e := amount.Add(a.Free, b.Free)
	if e != api.OK {
		return api.Balance{}, e
	}
	held, e := amount.Add(a.Held, b.Held)
	if e != api.OK {
		return api.Balance{}, e
	}
	return api.Balance{Free: free, Held: held}, api.OK
}

// net: what was deposited, less what was withdrawn, is so much more; of an amount below 0 less.
func net(o *overlay.Overlay, thing int, n int64) step {
	return func() api.Errno {
		name := "net" + strconv.Itoa(thing)
		all, e := Number(o, name)
		switch {
		case e != api.OK:
			return e
		case n < 0 && all < uint64(-n):
			return api.ErrUnder
		case n > 0 && all > uint64(math.MaxInt64-n):
			return api.ErrOver
		}
		// Of an amount below 0 the sum goes round to the difference.
		return Set(o, name, all+uint64(n))
	}
}
