package book_test

import (
	"fmt"
	"iter"
	"math"
	"slices"
	"testing"

	"bourse/api"
	"bourse/book"
	"bourse/overlay"
)

// crowd: orders that rest, and others, in no order.
func crowd() []api.Order {
	closed := rests(api.Buy, 99, 1, 40, 5)
	closed.State, closed.Expiry = api.Cancelled, 3
	filled := rests(api.Sell, 1, 1, 41, 5)
	filled.Left, filled.State = 0, api.Filled
	return []api.Order{
		rests(api.Sell, 7, 9, 1, 2), rests(api.Buy, 5, 4, 2, 3), rests(api.Sell, 6, 8, 3, 5), rests(api.Buy, 6, 9, 4, 7), rests(api.Sell, 6, 3, 5, 11),
		rests(api.Buy, 5, 4, 6, 13), rests(api.Sell, 1<<40, 0, 7, 17), rests(api.Buy, 1, 0, 8, 19), rests(api.Buy, 5, 3, 9, 23), rests(api.Sell, 6, 3, 10, 29),
		rests(api.Buy, 1, math.MaxUint64, 11, 1<<40), closed, filled,
	}
}

// by: the orders of these numbers, in this order.
func by(l []api.Order, ids ...uint64) []api.Order {
	var some []api.Order
	for _, id := range ids {
		some = append(some, l[slices.IndexFunc(l, func(x api.Order) bool { return x.ID == id })])
	}
	return some
}

// sides: those of the crowd that rest.
func sides() map[int][]uint64 {
	return map[int][]uint64{
		api.Buy: {4, 9, 2, 6, 8, 11}, api.Sell: {5, 10, 3, 1, 7},
		0: nil, 3: nil, -1: nil, 1 + 1<<32: nil, 2 - 1<<32: nil, math.MinInt: nil, math.MaxInt: nil,
	}
}

// TestSide: P24.2, the best price first, then the lower rank, then the lower number.
func TestSide(t *testing.T) {
	o := put(t, crowd()...)
	for side, ids := range sides() {
		list(t, fmt.Sprint("the side ", side), gone(book.Side(o, side)), fine(by(crowd(), ids...)...))
	}
	list(t, "of nothing", gone(book.Side(overlay.New(), api.Buy)), nil)
}

// TestAll: P24.1, all orders, by their numbers.
func TestAll(t *testing.T) {
	l := crowd()
	for i, id := range []uint64{math.MaxUint64, 1 << 63, 256, 300, 1<<63 - 1} {
		x := l[i]
		x.ID = id
		l = append(l, x)
	}
	o := put(t, l...)
	o.Put("to", "")
	o.Put("tp\x00\x00", "")
	list(t, "All", gone(book.All(o)), fine(by(l, 1, 2, 3, 4, 5, 6, 7, 8, 9, 10, 11, 40, 41, 256, 300, 1<<63-1, 1<<63, math.MaxUint64)...))
	list(t, "of nothing", gone(book.All(overlay.New())), nil)
}

// TestDue: P24.2, those that rest with an Expiry up to now, by their times, then by their numbers.
func TestDue(t *testing.T) {
	due := func(id, at uint64, side int) api.Order {
		x := rests(side, int64(id), 100-id, id, 2)
		x.Expiry = at
		return x
	}
	closed := due(8, 2, api.Buy)
	closed.State = api.Expired
	filled := due(9, 1, api.Sell)
	filled.Left, filled.State = 0, api.Filled
	l := []api.Order{due(7, 1, api.Buy), due(6, 3, api.Sell), due(5, 1, api.Sell), due(4, 0, api.Buy), due(3, 256, api.Buy), due(2, 3, api.Buy), due(1, 1<<40, api.Sell), due(10, math.MaxUint64, api.Sell), closed, filled}
	o := put(t, l...)
	for now, ids := range map[uint64][]uint64{
		0: nil, 1: {5, 7}, 2: {5, 7}, 3: {5, 7, 2, 6}, 4: {5, 7, 2, 6}, 255: {5, 7, 2, 6}, 256: {5, 7, 2, 6, 3}, 1<<40 - 1: {5, 7, 2, 6, 3}, 1 << 40: {5, 7, 2, 6, 3, 1},
		1 << 63: {5, 7, 2, 6, 3, 1}, math.MaxUint64 - 1: {5, 7, 2, 6, 3, 1}, math.MaxUint64: {5, 7, 2, 6, 3, 1, 10},
	} {
		list(t, fmt.Sprint("due at ", now), gone(book.Due(o, now)), fine(by(l, ids...)...))
	}
	list(t, "of nothing", gone(book.Due(overlay.New(), math.MaxUint64)), nil)
}

// TestRowsAreLeft: left anywhere, gone through as often as one likes, one within another; what they go through is what is there then.
func TestRowsAreLeft(t *testing.T) {
	l := crowd()
	for i := range l {
		l[i].Expiry = 5
	}
	o := put(t, l...)
	for name, row := range map[string]iter.Seq2[api.Order, api.Errno]{"Side": book.Side(o, api.Buy), "Due": book.Due(o, 9), "All": book.All(o)} {
		whole := gone(row)
		want(t, name+" tells some", len(whole) > 4, true)
		for n := range len(whole) {
			var some []told
			for x, e := range row {
				some = append(some, told{x, e})
				if len(some) == n+1 {
					break
				}
			}
			list(t, fmt.Sprint(name, " left behind ", n+1), some, whole[:n+1])
		}
		outer := 0
		for x := range row {
			got, there, e := book.Get(o, x.ID)
			want(t, name+": Get within a row", got == x && there && e == api.OK, true)
			list(t, name+" within itself", gone(row), whole)
			outer++
		}
		want(t, name+": the outer one", outer, len(whole))
	}
	side, due, every := book.Side(o, api.Buy), book.Due(o, 9), book.All(o)
	best := api.Order{ID: 50, Account: 1, Side: api.Buy, Price: 100, Size: 1, Left: 1, Expiry: 1, State: api.Resting}
	want(t, "Put", book.Put(o, best), api.OK)
	want(t, "Side asked for ahead of it", gone(side)[0], told{x: best})
	want(t, "Due asked for ahead of it", gone(due)[0], told{x: best})
	want(t, "All asked for ahead of it", gone(every)[len(l)], told{x: best})
}

// late is a reader of which another one is asked when it is known.
type late struct{ r *overlay.Reader }

func (l late) Get(key string) (string, bool)            { return (*l.r).Get(key) }
func (l late) Range(from, to string) iter.Seq[api.Pair] { return (*l.r).Range(from, to) }

// TestRowsAskThen: a row asks its reader when it is gone through, each time.
func TestRowsAskThen(t *testing.T) {
	x := sound()
	var now overlay.Reader = overlay.New()
	r := late{&now}
	side, due, every := book.Side(r, api.Buy), book.Due(r, 9), book.All(r)
	want(t, "nothing", len(gone(side))+len(gone(due))+len(gone(every)), 0)
	now = put(t, x)
	for _, row := range []iter.Seq2[api.Order, api.Errno]{side, due, every} {
		list(t, "later", gone(row), fine(x))
	}
}

// TestBrokenPlaces: P24.2, ErrBroken, where an order isn't there or doesn't rest so; ErrKey, where it is no place; behind the first error nothing.
func TestBrokenPlaces(t *testing.T) {
	first, last := rests(api.Sell, 1, 1, 1, 2), rests(api.Sell, 90, 1, 2, 2)
	x := rests(api.Sell, 10, 5, 5, 2)
	as := func(change func(*api.Order)) api.Order {
		y := x
		change(&y)
		return y
	}
	for _, c := range []struct {
		what  string
		order []api.Pair
		at    string
		fault api.Errno
	}{
		{"no order", nil, placeKey(x), api.ErrBroken},
		{"no order of the number 0", nil, placeKey(as(func(y *api.Order) { y.ID = 0 })), api.ErrBroken},
		{"filled", pairs(as(func(y *api.Order) { y.Left, y.State = 0, api.Filled })), placeKey(x), api.ErrBroken},
		{"cancelled", pairs(as(func(y *api.Order) { y.State = api.Cancelled })), placeKey(x), api.ErrBroken},
		{"expired", pairs(as(func(y *api.Order) { y.State = api.Expired })), placeKey(x), api.ErrBroken},
		{"at a lower price", pairs(as(func(y *api.Order) { y.Price = 95 })), placeKey(x), api.ErrBroken},
		{"with another rank", pairs(as(func(y *api.Order) { y.Rank = 6 })), placeKey(x), api.ErrBroken},
		{"on the other side", pairs(as(func(y *api.Order) { y.Side = api.Buy })), placeKey(x), api.ErrBroken},
		{"bytes of none", []api.Pair{{Key: orderKey(5), Value: "\x01"}}, placeKey(x), api.ErrShort},
		{"an order that may not be", pairs(as(func(y *api.Order) { y.Account = 0 })), placeKey(x), api.ErrArg},
		{"a key that is cut", pairs(x), placeKey(x)[:39], api.ErrKey},
		{"a key without a number", pairs(x), placeKey(x)[:31], api.ErrKey},
		{"a key that goes on", nil, placeKey(x) + "x", api.ErrKey},
		{"a falling price", nil, "tb\x00\x00i" + eight(half+2) + "d" + eight(^uint64(half+10)) + "u" + eight(5) + "u" + eight(5), api.ErrKey},
		{"the side alone", nil, "tb\x00\x00i" + eight(half+2), api.ErrKey},
	} {
		r := overlay.New(slices.Concat(pairs(first, last), c.order, []api.Pair{{Key: c.at}})...)
		l := gone(book.Side(r, api.Sell))
		if len(l) == 0 || len(l) > 2 {
			t.Errorf("%s: %+v", c.what, l)
			continue
		}
		want(t, c.what, l[len(l)-1], told{e: c.fault})
		list(t, c.what+": ahead of it", l[:len(l)-1], fine(first)[:len(l)-1])
		if len(l) == 2 {
			price, ok, e := book.Best(r, api.Sell)
			want(t, c.what+": Best", price == 1 && ok && e == api.OK, true)
		} else {
			price, ok, e := book.Best(r, api.Sell)
			want(t, c.what+": Best", price == 0 && !ok && e == c.fault, true)
		}
		levels, e := book.Depth(r, api.Sell, 5)
		want(t, c.what+": Depth", levels == nil && e == c.fault, true)
		list(t, c.what+": Side of Buys", gone(book.Side(overlay.New(append(pairs(first), api.Pair{Key: c.at})...), api.Buy)), nil)
	}
	list(t, "a place on no side", gone(book.Side(overlay.New(append(pairs(x), api.Pair{Key: placeKey(as(func(y *api.Order) { y.Side = 3 }))})...), 3)), []told{{e: api.ErrBroken}})
}

// TestBrokenExpiries: P24.2, likewise of expiries, one at the time 0, too; those above now aren't looked at.
func TestBrokenExpiries(t *testing.T) {
	first, last := but(func(x *api.Order) { x.ID, x.Expiry = 1, 1 }), but(func(x *api.Order) { x.ID, x.Expiry = 2, 90 })
	none := but(func(x *api.Order) { x.Expiry = 0 })
	for _, c := range []struct {
		what  string
		order []api.Pair
		at    string
		ahead []told
		fault api.Errno
	}{
		{"no order", nil, expiryKey(9, 5), fine(first), api.ErrBroken},
		{"no order at 0", nil, expiryKey(0, 5), nil, api.ErrBroken},
		{"at 0, one without an expiry", pairs(none), expiryKey(0, 5), nil, api.ErrBroken},
		{"at 0, one with an expiry", pairs(sound()), expiryKey(0, 5), nil, api.ErrBroken},
		{"one without an expiry", pairs(none), expiryKey(9, 5), fine(first), api.ErrBroken},
		{"another time", pairs(but(func(x *api.Order) { x.Expiry = 95 })), expiryKey(9, 5), fine(first), api.ErrBroken},
		{"an earlier one", pairs(sound()), expiryKey(8, 5), fine(first), api.ErrBroken},
		{"cancelled", pairs(but(func(x *api.Order) { x.State = api.Cancelled })), expiryKey(9, 5), fine(first), api.ErrBroken},
		{"filled", pairs(but(func(x *api.Order) { x.Left, x.State = 0, api.Filled })), expiryKey(9, 5), fine(first), api.ErrBroken},
		{"bytes of none", []api.Pair{{Key: orderKey(5), Value: "\x01"}}, expiryKey(9, 5), fine(first), api.ErrShort},
		{"bytes of none, at 0", []api.Pair{{Key: orderKey(5), Value: "\x01"}}, expiryKey(0, 5), nil, api.ErrShort},
		{"a key that is cut", nil, expiryKey(9, 5)[:20], fine(first), api.ErrKey},
		{"a key that goes on", nil, expiryKey(9, 5) + "x", fine(first), api.ErrKey},
		{"the sort alone", nil, "te\x00\x00", nil, api.ErrKey},
	} {
		r := overlay.New(slices.Concat(pairs(first, last), c.order, []api.Pair{{Key: c.at}})...)
		for _, now := range []uint64{9, 89, 90, math.MaxUint64} {
			list(t, fmt.Sprint(c.what, " at ", now), gone(book.Due(r, now)), append(slices.Clone(c.ahead), told{e: c.fault}))
		}
		if c.ahead != nil {
			list(t, c.what+" above now", gone(book.Due(r, 7)), c.ahead)
		}
	}
	there := pairs(sound())
	list(t, "one whose place isn't there", gone(book.Due(overlay.New(there[1:]...), 9)), fine(sound()))
	list(t, "one whose expiry isn't there", gone(book.Side(overlay.New(there[0], there[2]), api.Buy)), fine(sound()))
}

// TestBrokenAll: P24.2, layer 21's errors, and layer 20's, in the row of all, too.
func TestBrokenAll(t *testing.T) {
	first, last := but(func(x *api.Order) { x.ID = 1 }), but(func(x *api.Order) { x.ID = 9 })
	for _, c := range []struct {
		what       string
		key, value string
		ahead      []told
		fault      api.Errno
	}{
		{"a broken value", orderKey(5), bytes(sound()) + "\x00", fine(first), api.ErrForm},
		{"the number 0", orderKey(0), bytes(sound()), nil, api.ErrArg},
		{"a key that is cut", orderKey(5)[:12], bytes(sound()), nil, api.ErrKey},
		{"a key that goes on", orderKey(5) + "x", bytes(sound()), fine(first), api.ErrKey},
		{"the sort alone", "to\x00\x00", bytes(sound()), nil, api.ErrKey},
		{"a key behind all", "to\x00\x00v", bytes(sound()), fine(first, last), api.ErrKey},
	} {
		r := overlay.New(append(pairs(first, last), api.Pair{Key: c.key, Value: c.value})...)
		list(t, c.what, gone(book.All(r)), append(slices.Clone(c.ahead), told{e: c.fault}))
	}
}
