package book_test

import (
	"cmp"
	"fmt"
	"maps"
	"slices"
	"testing"

	"bourse/api"
	"bourse/book"
	"bourse/overlay"
)

// dice: numbers that look like chance, the same each time.
type dice uint64

func (d *dice) next() uint64 {
	*d = *d*6364136223846793005 + 1442695040888963407
	n := uint64(*d)
	return n ^ n>>29
}

func (d *dice) below(n int) int { return int(d.next() >> 20 % uint64(n)) }

// order: of few numbers, prices, ranks and times; most rest.
func (d *dice) order() api.Order {
	x := api.Order{ID: 1 + uint64(d.below(12)), Account: 1 + uint64(d.below(3)), Side: 1 + d.below(2), Price: 1 + int64(d.below(4)), Size: 5, Left: 1 + int64(d.below(5)), Rank: uint64(d.below(3)), State: api.Resting}
	if d.below(3) > 0 {
		x.Expiry = uint64(d.below(5))
	}
	switch d.below(8) {
	case 0:
		x.State = api.Cancelled
	case 1:
		x.State = api.Expired
	case 2:
		x.Left, x.State = 0, api.Filled
	case 3:
		x.Left = 6
	}
	return x
}

// model is the orders, by their numbers.
type model map[uint64]api.Order

// some: those of the model for which ok holds, by an order.
func (m model) some(ok func(api.Order) bool, order func(a, b api.Order) int) []api.Order {
	l := slices.SortedFunc(maps.Values(m), order)
	return slices.DeleteFunc(l, func(x api.Order) bool { return !ok(x) })
}

func number(a, b api.Order) int { return cmp.Compare(a.ID, b.ID) }

func (m model) all() []api.Order {
	return m.some(func(api.Order) bool { return true }, number)
}

func (m model) side(side int) []api.Order {
	dearer := 1
	if side == api.Buy {
		dearer = -1
	}
	return m.some(func(x api.Order) bool { return x.State == api.Resting && x.Side == side }, func(a, b api.Order) int {
		return cmp.Or(dearer*cmp.Compare(a.Price, b.Price), cmp.Compare(a.Rank, b.Rank), number(a, b))
	})
}

func (m model) due(now uint64) []api.Order {
	return m.some(func(x api.Order) bool { return x.State == api.Resting && x.Expiry != 0 && x.Expiry <= now }, func(a, b api.Order) int {
		return cmp.Or(cmp.Compare(a.Expiry, b.Expiry), number(a, b))
	})
}

// depth: all of a side's prices.
func (m model) depth(side int) []book.Level {
	sizes := map[int64]int64{}
	var prices []int64
	for _, x := range m.side(side) {
		if sizes[x.Price] == 0 {
			prices = append(prices, x.Price)
		}
		sizes[x.Price] += x.Left
	}
	var l []book.Level
	for _, p := range prices {
		l = append(l, book.Level{Price: p, Size: sizes[p]})
	}
	return l
}

// TestModel: P24.1 to P24.4, by dice: all that stands, all rows, the best prices, all depths.
func TestModel(t *testing.T) {
	d := dice(24)
	for run := range 200 {
		s := overlay.New()
		o := overlay.Over(s)
		m := model{}
		for range 40 {
			x := d.order()
			wanted := api.OK
			if x.Left > x.Size {
				wanted = api.ErrSize
			} else {
				m[x.ID] = x
			}
			what := fmt.Sprintf("run %d: Put of %+v", run, x)
			want(t, what, book.Put(o, x), wanted)
			if d.below(10) == 0 {
				s.Do(o.Changes())
				o = overlay.Over(s)
			}
			holds(t, what, o, m)
			if t.Failed() {
				return
			}
		}
	}
}

// holds: a reader has what the model has.
func holds(t *testing.T, what string, r overlay.Reader, m model) {
	t.Helper()
	list(t, what+": all that stands", all(r), pairs(m.all()...))
	list(t, what+": All", gone(book.All(r)), fine(m.all()...))
	for id := range uint64(14) {
		x, there, e := book.Get(r, id)
		wanted, is := m[id]
		want(t, fmt.Sprint(what, ": Get of ", id), x == wanted && there == is && e == api.OK, true)
	}
	for now := range uint64(6) {
		list(t, fmt.Sprint(what, ": due at ", now), gone(book.Due(r, now)), fine(m.due(now)...))
	}
	for side := range 4 {
		list(t, fmt.Sprint(what, ": the side ", side), gone(book.Side(r, side)), fine(m.side(side)...))
		depth := m.depth(side)
		for most := range 6 {
			l, e := book.Depth(r, side, most)
			list(t, fmt.Sprint(what, ": the depth of ", side, ", so many: ", most), l, depth[:min(most, len(depth))])
			want(t, what+": Depth", e, api.OK)
		}
		price, ok, e := book.Best(r, side)
		want(t, fmt.Sprint(what, ": the best of ", side), ok == (len(depth) > 0) && e == api.OK, true)
		if ok {
			want(t, fmt.Sprint(what, ": the best of ", side), price, depth[0].Price)
		}
	}
}
