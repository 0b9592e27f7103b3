package match_test

import (
	"fmt"
	"testing"

	"bourse/api"
	"bourse/match"
	"bourse/overlay"
	"bourse/schema"
)

// of: fills of so much, each at a price.
func of(l ...[2]int64) []match.Fill {
	var all []match.Fill
	for _, x := range l {
		all = append(all, match.Fill{Maker: api.Order{Price: x[0]}, Size: x[1]})
	}
	return all
}

// TestCostAndTaken: P25.2, what fills come to; layer 19's errors, the first one.
func TestCostAndTaken(t *testing.T) {
	const most = 1 << 40
	type sum struct {
		n int64
		e api.Errno
	}
	for _, c := range []struct {
		l           []match.Fill
		cost, taken sum
	}{
		{nil, sum{}, sum{}},
		{[]match.Fill{}, sum{}, sum{}},
		{of([2]int64{10, 3}), sum{n: 30}, sum{n: 3}},
		{of([2]int64{10, 3}, [2]int64{7, 2}, [2]int64{1, 1}), sum{n: 45}, sum{n: 6}},
		{of([2]int64{0, 3}, [2]int64{3, 0}), sum{}, sum{n: 3}},
		{of([2]int64{most, 1<<23 - 1}), sum{n: greatest - most + 1}, sum{n: 1<<23 - 1}},
		{of([2]int64{most, 1<<23 - 1}, [2]int64{1, most - 1}), sum{n: greatest}, sum{n: 1<<23 + most - 2}},
		{of([2]int64{most, 1<<23 - 1}, [2]int64{1, most}), sum{e: api.ErrOver}, sum{n: 1<<23 + most - 1}},
		{of([2]int64{most, 1 << 23}), sum{e: api.ErrOver}, sum{n: 1 << 23}},
		{of([2]int64{most, most}), sum{e: api.ErrOver}, sum{n: most}},
		{of([2]int64{1, greatest}), sum{n: greatest}, sum{n: greatest}},
		{of([2]int64{1, greatest}, [2]int64{2, 1}), sum{e: api.ErrOver}, sum{e: api.ErrOver}},
		{of([2]int64{2, -1}), sum{e: api.ErrUnder}, sum{n: -1}},
		{of([2]int64{-2, 1}), sum{e: api.ErrUnder}, sum{n: 1}},
		{of([2]int64{-2, -3}), sum{n: 6}, sum{n: -3}},
		{of([2]int64{-1, least}), sum{e: api.ErrOver}, sum{n: least}},
		{of([2]int64{0, least}, [2]int64{0, -1}), sum{}, sum{e: api.ErrOver}},
		{of([2]int64{0, greatest}, [2]int64{0, 1}, [2]int64{0, -5}), sum{}, sum{e: api.ErrOver}},
		{of([2]int64{0, greatest}, [2]int64{0, -5}, [2]int64{0, 5}), sum{}, sum{n: greatest}},
		// One behind the other: whichever error comes first.
		{of([2]int64{1, -1}, [2]int64{most, most}), sum{e: api.ErrUnder}, sum{n: most - 1}},
		{of([2]int64{most, most}, [2]int64{1, -1}), sum{e: api.ErrOver}, sum{n: most - 1}},
		{of([2]int64{1, greatest}, [2]int64{1, 1}, [2]int64{1, -1}), sum{e: api.ErrOver}, sum{e: api.ErrOver}},
	} {
		n, e := match.Cost(c.l)
		want(t, fmt.Sprintf("Cost of %+v", c.l), sum{n, e}, c.cost)
		n, e = match.Taken(c.l)
		want(t, fmt.Sprintf("Taken of %+v", c.l), sum{n, e}, c.taken)
	}
}

// met is what Meets answers.
type met struct {
	is bool
	e  api.Errno
}

// meets: its answer, and that nothing is changed.
func meets(t *testing.T, what string, o *overlay.Overlay, side int, price int64, wanted met) {
	t.Helper()
	mark := o.Mark()
	is, e := match.Meets(o, side, price)
	want(t, fmt.Sprint(what, ": Meets of ", side, " at ", price), met{is, e}, wanted)
	want(t, what+": Mark", o.Mark(), mark)
}

// TestMeets: P25.2, the best price of the other side; false, where nobody rests there.
func TestMeets(t *testing.T) {
	o := put(t, crowd()...)
	for price, wanted := range map[int64]bool{least: false, -1: false, 0: false, 1: false, 5: false, 6: true, 7: true, 10: true, greatest: true} {
		meets(t, "the crowd", o, api.Buy, price, met{is: wanted})
	}
	for price, wanted := range map[int64]bool{least: true, -1: true, 0: true, 1: true, 5: true, 6: false, 7: false, greatest: false} {
		meets(t, "the crowd", o, api.Sell, price, met{is: wanted})
	}
	sells, buys := put(t, rests(api.Sell, 6, 1, 1, 1)), put(t, rests(api.Buy, 6, 1, 1, 1))
	for _, price := range []int64{least, 0, 1, 6, greatest} {
		meets(t, "no Buys", sells, api.Sell, price, met{})
		meets(t, "no Sells", buys, api.Buy, price, met{})
		meets(t, "nobody", put(t), api.Buy, price, met{})
		meets(t, "nil", nil, api.Sell, price, met{})
		for _, side := range []int{0, 3, -1, 1 + 1<<32, 2 - 1<<32, least, greatest} {
			meets(t, "no side", o, side, price, met{})
		}
	}
}

// TestMeetsErrors: P25.2, the error of the best one alone.
func TestMeetsErrors(t *testing.T) {
	o := put(t, crowd()...)
	o.Put(schema.Place(rests(api.Sell, 5, 0, 50, 1)), "")
	o.Put(schema.Place(rests(api.Buy, 4, 0, 51, 1)), "")
	for _, price := range []int64{least, 0, 6, greatest} {
		meets(t, "a broken best one", o, api.Buy, price, met{e: api.ErrBroken})
	}
	meets(t, "a broken one behind it", o, api.Sell, 4, met{is: true})
	meets(t, "a broken one behind it", o, api.Sell, 6, met{})
	o.Put(schema.Order(8), "")
	meets(t, "broken bytes", o, api.Sell, 4, met{e: api.ErrShort})
	meets(t, "broken bytes", o, api.Sell, 99, met{e: api.ErrShort})
}
