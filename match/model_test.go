package match_test

import (
	"cmp"
	"fmt"
	"slices"
	"testing"

	"bourse/api"
	"bourse/match"
	"bourse/overlay"
)

// dice: numbers that look like chance, the same each time.
type dice uint64

func (d *dice) next() uint64 {
	*d = *d*6364136223846793005 + 1442695040888963407
	n := uint64(*d)
	return n ^ n>>29
}

func (d *dice) below(n int) int { return int(d.next() >> 20 % uint64(n)) }

// orders: some that rest, of few prices and ranks.
func (d *dice) orders() []api.Order {
	var l []api.Order
	for i := range d.below(9) {
		l = append(l, rests(1+d.below(2), 1+int64(d.below(6)), uint64(d.below(3)), uint64(1+i), 1+int64(d.below(5))))
	}
	return l
}

// better: who of two Sells, or of two Buys, is met first?
func better(a, b api.Order) int {
	dearer := 1
	if a.Side == api.Buy {
		dearer = -1
	}
	return cmp.Or(dearer*cmp.Compare(a.Price, b.Price), cmp.Compare(a.Rank, b.Rank), cmp.Compare(a.ID, b.ID))
}

// fair: does a taker's price let it meet one that rests at another one?
func fair(t match.Taker, rest int64) bool {
	return t.Price == 0 || t.Side == api.Buy && rest <= t.Price || t.Side == api.Sell && rest >= t.Price
}

// meant: a Plan, piece by piece, each of them of the size 1.
func meant(orders []api.Order, t match.Taker) ([]match.Fill, int64) {
	others := slices.DeleteFunc(slices.Clone(orders), func(x api.Order) bool { return x.Side == t.Side })
	slices.SortFunc(others, better)
	var pieces []api.Order
	for _, x := range others {
		pieces = append(pieces, slices.Repeat([]api.Order{x}, int(x.Left))...)
	}
	limited := t.Cash >= 0
	var l []match.Fill
	for _, x := range pieces {
		if t.Size == 0 || !fair(t, x.Price) || limited && x.Price > t.Cash {
			break
		}
		t.Size--
		t.Cash -= x.Price
		if n := len(l); n == 0 || l[n-1].Maker != x {
			l = append(l, match.Fill{Maker: x})
		}
		l[len(l)-1].Size++
	}
	return l, t.Size
}

// TestModel: P25.1 to P25.3, by dice.
func TestModel(t *testing.T) {
	d := dice(25)
	seen := map[string]int{}
	for run := range 5000 {
		orders := d.orders()
		s := put(t, orders...)
		o := overlay.Over(s)
		taker := match.Taker{Side: 1 + d.below(2), Price: int64(d.below(8)), Size: 1 + int64(d.below(20)), Cash: int64(d.below(90)) - 40}
		l, left := meant(orders, taker)
		planned(t, o, taker, l, left, api.OK)
		what := fmt.Sprint("run ", run)
		follows(t, what, o, taker)
		if taker.Price > 0 {
			first, _ := meant(orders, match.Taker{Side: taker.Side, Price: taker.Price, Size: 1, Cash: -1})
			meets(t, what, o, taker.Side, taker.Price, met{is: len(first) > 0})
		}
		seen[fmt.Sprint(taker.Side, " fills ", min(len(l), 3))]++
		seen[fmt.Sprint(taker.Side, " all ", left == 0)]++
		if t.Failed() {
			return
		}
	}
	for _, what := range []string{"fills 0", "fills 1", "fills 2", "fills 3", "all true", "all false"} {
		for side := 1; side <= 2; side++ {
			if seen[fmt.Sprint(side, " ", what)] < 20 {
				t.Errorf("the dice made %q of the side %d %d times alone", what, side, seen[fmt.Sprint(side, " ", what)])
			}
		}
	}
}

// follows: P25.3, and that what is paid can be.
func follows(t *testing.T, what string, o *overlay.Overlay, taker match.Taker) {
	t.Helper()
	l, left, _ := match.Plan(o, taker)
	for i, f := range l {
		want(t, what+": of the other side, fair, no more than rests", f.Maker.Side != taker.Side && fair(taker, f.Maker.Price) && f.Size > 0 && f.Size <= f.Maker.Left, true)
		if i > 0 {
			want(t, what+": in the book's order, all of the one ahead", better(l[i-1].Maker, f.Maker) < 0 && l[i-1].Size == l[i-1].Maker.Left, true)
		}
	}
	taken, e := match.Taken(l)
	want(t, what+": what is taken and what is left", taken+left, taker.Size)
	want(t, what+": Taken", e, api.OK)
	cost, e := match.Cost(l)
	want(t, what+": can it be paid?", e == api.OK && (taker.Cash < 0 || cost <= taker.Cash), true)
}
