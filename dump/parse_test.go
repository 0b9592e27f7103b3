package dump_test

import (
	"fmt"
	"math"
	"strings"
	"testing"

	"bourse/api"
	"bourse/dump"
)

// dice: numbers that look like chance, the same each time.
type dice uint64

func (d *dice) next() uint64 {
	*d = *d*6364136223846793005 + 1442695040888963407
	n := uint64(*d)
	return n ^ n>>29
}

func (d *dice) below(n int) int { return int(d.next() >> 20 % uint64(n)) }

// one: is it the one in so many?
func (d *dice) one(n int) bool { return d.below(n) == 0 }

// length: a number of any.
func (d *dice) length() uint64 { return d.next() >> d.below(64) }

// tape: a test's own reader of a dump's bytes, and its first error.
type tape struct {
	s string
	e api.Errno
}

// fail: as the first error counts.
func (r *tape) fail(e api.Errno) {
	if r.e == api.OK {
		r.e = e
	}
}

func (r *tape) num() uint64 {
	n := uint64(0)
	for i := 0; r.e == api.OK; i++ {
		switch {
		case i == len(r.s):
			r.fail(api.ErrShort)
		case i == 9 && r.s[i] > 1:
			r.fail(api.ErrRange)
		case r.s[i] == 0 && i > 0:
			r.fail(api.ErrForm)
		case r.s[i] < 128:
			n += uint64(r.s[i]) << (7 * i)
			r.s = r.s[i+1:]
			return n
		default:
			n += uint64(r.s[i]-128) << (7 * i)
		}
	}
	return 0
}

func (r *tape) signed() int64 {
	n := r.num()
	return int64(n>>1) ^ -int64(n&1)
}

// text: as another tape.
func (r *tape) text() *tape {
	n := r.num()
	if n > 4096 {
		r.fail(api.ErrLong)
	}
	if n > uint64(len(r.s)) {
		r.fail(api.ErrShort)
	}
	if r.e != api.OK {
		return &tape{e: r.e}
	}
	inner := &tape{s: r.s[:n]}
	r.s = r.s[n:]
	return inner
}

func (r *tape) end() api.Errno {
	if r.s != "" {
		r.fail(api.ErrForm)
	}
	return r.e
}

// account: the next one.
func (r *tape) account(far *bool) dump.Account {
	id, thing := r.num(), r.signed()
	*far = *far || thing > math.MaxInt32 || thing < math.MinInt32
	s := r.text()
	b := api.Balance{Free: s.signed(), Held: s.signed()}
	r.fail(s.end())
	if b.Free < 0 || b.Held < 0 {
		r.fail(api.ErrUnder)
	}
	if b.Free > greatest-b.Held {
		r.fail(api.ErrOver)
	}
	return dump.Account{ID: id, Thing: int(thing), Money: b}
}

// order: the next one.
func (r *tape) order() api.Order {
	x := api.Order{ID: r.num()}
	s := r.text()
	small := func() int {
		n := s.num()
		if n > math.MaxInt32 {
			s.fail(api.ErrForm)
		}
		return int(n)
	}
	x.Account, x.Side = s.num(), small()
	x.Price, x.Size, x.Left = s.signed(), s.signed(), s.signed()
	x.Rank, x.Expiry = s.num(), s.num()
	x.State = small()
	r.fail(s.end())
	r.fail(wrong(x))
	return x
}

// wrong: layer 20's error of an order.
func wrong(x api.Order) api.Errno {
	switch {
	case x.Account == 0 || x.ID == 0:
		return api.ErrArg
	case x.Side != 1 && x.Side != 2:
		return api.ErrSide
	case x.Price < 1 || x.Price > top:
		return api.ErrPrice
	case x.Size < 1 || x.Size > top || x.Left < 0 || x.Left > x.Size:
		return api.ErrSize
	case x.State == 1 && x.Left > 0, x.State == 2 && x.Left == 0, x.State == 3, x.State == 4:
		return api.OK
	}
	return api.ErrKind
}

// parsed: what bytes are, told once more.
func parsed(s string) (dump.Dump, api.Errno) {
	r := &tape{s: s}
	d := dump.Dump{Clock: r.num(), IDs: r.num(), Ranks: r.num(), Net: [2]uint64{r.num(), r.num()}}
	far := false
	for n := r.num(); n > 0 && r.e == api.OK; n-- {
		d.Accounts = append(d.Accounts, r.account(&far))
	}
	for n := r.num(); n > 0 && r.e == api.OK; n-- {
		d.Orders = append(d.Orders, r.order())
	}
	switch {
	case r.end() != api.OK:
		return dump.Dump{}, r.e
	case len(d.Accounts) > 1<<16 || len(d.Orders) > 1<<16:
		return dump.Dump{}, api.ErrMany
	case far:
		return dump.Dump{}, api.ErrForm
	}
	return d, api.OK
}

// order: one that may be.
func (d *dice) order(id uint64) api.Order {
	x := api.Order{ID: id, Account: d.length() | 1, Side: 1 + d.below(2), Price: int64(1 + d.next()>>d.below(40)%top), Size: int64(1 + d.next()>>d.below(40)%top), Rank: d.length(), Expiry: d.length(), State: 1 + d.below(4)}
	x.Left = 1 + int64(d.next()%uint64(x.Size))
	if x.State == api.Filled {
		x.Left = 0
	}
	if d.one(3) {
		x.Expiry = 0
	}
	return x
}

// dump: one as it is told, all of it in order.
func (d *dice) dump() dump.Dump {
	x := dump.Dump{Clock: d.length(), IDs: d.length(), Ranks: d.length(), Net: [2]uint64{d.length(), d.length()}}
	if d.one(3) {
		x.Clock, x.Net[d.below(2)] = 0, 0
	}
	id := uint64(0)
	for range d.below(5) {
		id += 1 + d.length()>>3
		for thing := api.Cash; thing <= api.Goods; thing++ {
			b := api.Balance{Free: int64(d.length() >> 2), Held: int64(d.length() >> 2)}
			if !d.one(3) && b != (api.Balance{}) {
				x.Accounts = append(x.Accounts, dump.Account{ID: id, Thing: thing, Money: b})
			}
		}
	}
	id = 0
	for range d.below(6) {
		id += 1 + d.length()>>3
		x.Orders = append(x.Orders, d.order(id))
	}
	return x
}

// harm: a part of a dump, now and then, may not be.
func (d *dice) harm(x *dump.Dump) {
	if len(x.Accounts) > 0 && d.one(10) {
		a := &x.Accounts[d.below(len(x.Accounts))]
		a.Money.Free += greatest / 2
		a.Money.Held += greatest / 2 * int64(d.below(2))
		a.Thing = []int{1, 1 << 31, -1 << 31, -1<<31 - 1}[d.below(4)]
	}
	if len(x.Orders) > 0 && d.one(10) {
		o := &x.Orders[d.below(len(x.Orders))]
		o.ID *= uint64(d.below(2))
		o.Account *= uint64(d.below(2))
	}
}

// altered: bytes, some of which are others, gone, or more.
func (d *dice) altered(s string) string {
	odd := []string{"\x00", "\x01", "\x02", "\x03", "\x7f", "\x80", "\x81", "\xff", "\x80\x00", "\xff\xff\xff\xff\x0f", "\x80\x80\x80\x80\x10", strings.Repeat("\xff", 9) + "\x01", strings.Repeat("\xff", 10)}
	for range d.below(4) {
		i := d.below(len(s) + 1)
		j := min(len(s), i+d.below(3))
		switch d.below(4) {
		case 0:
			s = s[:i] + s[j:]
		case 1:
			s = s[:i] + odd[d.below(len(odd))] + s[i:]
		default:
			s = s[:i] + odd[d.below(len(odd))] + s[j:]
		}
	}
	return s
}

// TestParse: P29.2, P29.4, by dice: what is written is read as it was; what is altered is what a reader told once more says; what is read would be written so.
func TestParse(t *testing.T) {
	c := dice(29)
	seen := map[api.Errno]int{}
	for range 200000 {
		x := c.dump()
		if c.one(20) {
			bothWays(t, "by dice", x, bytesOf(x))
		}
		c.harm(&x)
		s := c.altered(x.Bytes())
		d, e := dump.Parse(s)
		wanted, f := parsed(s)
		want(t, fmt.Sprintf("%x: error", s), e, f)
		alike(t, fmt.Sprintf("%x", s), d, wanted)
		if e == api.OK {
			want(t, fmt.Sprintf("%x: written again", s), d.Bytes() == s, true)
		}
		seen[e]++
		if t.Failed() {
			return
		}
	}
	for _, e := range []api.Errno{api.OK, api.ErrShort, api.ErrForm, api.ErrRange, api.ErrLong, api.ErrUnder, api.ErrOver, api.ErrArg, api.ErrSide, api.ErrPrice, api.ErrSize, api.ErrKind} {
		want(t, fmt.Sprint("the dice made ", e), seen[e] > 50, true)
	}
}

// TestParseShort: P29.2, all texts of up to eight bytes out of five.
func TestParseShort(t *testing.T) {
	var look func(s string)
	look = func(s string) {
		d, e := dump.Parse(s)
		wanted, f := parsed(s)
		want(t, fmt.Sprintf("%x: error", s), e, f)
		alike(t, fmt.Sprintf("%x", s), d, wanted)
		if len(s) < 8 && !t.Failed() {
			for _, b := range []byte{0, 1, 2, 0x7f, 0x80} {
				look(s + string([]byte{b}))
			}
		}
	}
	look("")
}
