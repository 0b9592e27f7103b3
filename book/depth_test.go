package book_test

import (
	"fmt"
	"iter"
	"math"
	"runtime/debug"
	"testing"

	"bourse/api"
	"bourse/book"
	"bourse/overlay"
)

// TestBest: P24.3, the best price of a side.
func TestBest(t *testing.T) {
	o := put(t, crowd()...)
	for side, ids := range sides() {
		price, ok, e := book.Best(o, side)
		var wanted int64
		if len(ids) > 0 {
			wanted = by(crowd(), ids[0])[0].Price
		}
		want(t, fmt.Sprint("the side ", side), price == wanted && ok == (len(ids) > 0) && e == api.OK, true)
	}
	best := func(what string, side int, wanted int64) {
		t.Helper()
		price, ok, e := book.Best(o, side)
		want(t, what, price, wanted)
		want(t, what, ok == (wanted > 0) && e == api.OK, true)
	}
	best("ahead", api.Sell, 6)
	for i, id := range sides()[api.Sell] {
		x := by(crowd(), id)[0]
		x.State = api.Cancelled
		want(t, "Put", book.Put(o, x), api.OK)
		best(fmt.Sprint(id, " is gone"), api.Sell, []int64{6, 6, 7, 1 << 40, 0}[i])
	}
	best("the other side", api.Buy, 6)
	want(t, "Put", book.Put(o, rests(api.Sell, 1<<40, 0, 60, 1)), api.OK)
	best("the greatest price", api.Sell, 1<<40)
}

// depths: of the crowd.
func depths() map[int][]book.Level {
	return map[int][]book.Level{
		api.Buy:  {{Price: 6, Size: 7}, {Price: 5, Size: 39}, {Price: 1, Size: 1<<40 + 19}},
		api.Sell: {{Price: 6, Size: 45}, {Price: 7, Size: 2}, {Price: 1 << 40, Size: 17}},
		0:        nil, 3: nil, -1: nil, 1 + 1<<32: nil, math.MinInt: nil, math.MaxInt: nil,
	}
}

// TestDepth: P24.3, the first so many prices, none below 1.
func TestDepth(t *testing.T) {
	o := put(t, crowd()...)
	for side, wanted := range depths() {
		for _, most := range []int{math.MinInt, -1, 0, 1, 2, 3, 4, 32, 33, math.MaxInt} {
			l, e := book.Depth(o, side, most)
			what := fmt.Sprint("the side ", side, ", so many: ", most)
			want(t, what, e, api.OK)
			list(t, what, l, wanted[:min(max(most, 0), len(wanted))])
		}
	}
	x := rests(api.Sell, 6, 3, 5, 11)
	x.Left = 4
	want(t, "Put", book.Put(o, x), api.OK)
	l, e := book.Depth(o, api.Sell, 1)
	list(t, "what is left counts", l, []book.Level{{Price: 6, Size: 38}})
	want(t, "what is left counts", e, api.OK)
	l[0] = book.Level{}
	l, _ = book.Depth(o, api.Sell, 1)
	list(t, "another answer", l, []book.Level{{Price: 6, Size: 38}})
}

// TestDepthErrors: P24.3, the first error, and none; none is asked for, none is found.
func TestDepthErrors(t *testing.T) {
	broken := rests(api.Sell, 6, 9, 30, 1)
	r := overlay.New(append(all(put(t, crowd()...)), api.Pair{Key: placeKey(broken)})...)
	for _, most := range []int{1, 2, 3, 32, math.MaxInt} {
		l, e := book.Depth(r, api.Sell, most)
		want(t, fmt.Sprint("so many: ", most), l == nil && e == api.ErrBroken, true)
	}
	for _, most := range []int{0, -1, math.MinInt} {
		l, e := book.Depth(r, api.Sell, most)
		want(t, fmt.Sprint("so many: ", most), len(l) == 0 && e == api.OK, true)
	}
	l, e := book.Depth(r, api.Buy, 3)
	list(t, "the other side", l, depths()[api.Buy])
	want(t, "the other side", e, api.OK)
	r = overlay.New(append(all(put(t, crowd()...)), api.Pair{Key: placeKey(rests(api.Sell, 8, 9, 30, 1))})...)
	l, e = book.Depth(r, api.Sell, 1)
	list(t, "an error that isn't come to", l, depths()[api.Sell][:1])
	want(t, "an error that isn't come to", e, api.OK)
	l, e = book.Depth(r, api.Sell, 3)
	want(t, "an error that is", l == nil && e == api.ErrBroken, true)
}

// often is a shelf whose first pair within bounds comes so many times.
type often struct {
	*overlay.Shelf
	n int
}

func (o often) Range(from, to string) iter.Seq[api.Pair] {
	return func(yield func(api.Pair) bool) {
		n := o.n
		for p := range o.Shelf.Range(from, to) {
			for range n {
				if !yield(p) {
					return
				}
			}
			n = 1
		}
	}
}

// TestDepthOver: P24.3, up to 2^63 - 1 at one price, and no further.
func TestDepthOver(t *testing.T) {
	if testing.Short() {
		t.Skip("2^23 orders take their time")
	}
	percent := debug.SetGCPercent(2000)
	t.Cleanup(func() { debug.SetGCPercent(percent) })
	for _, c := range []struct {
		left  int64
		fault api.Errno
		l     []book.Level
	}{
		{1<<40 - 1, api.OK, []book.Level{{Price: 5, Size: math.MaxInt64}, {Price: 6, Size: 7}}},
		{1 << 40, api.ErrOver, nil},
	} {
		t.Run(fmt.Sprint(c.left), func(t *testing.T) {
			t.Parallel()
			s := overlay.New(pairs(rests(api.Sell, 5, 1, 1, 1<<40), rests(api.Sell, 5, 2, 2, c.left), rests(api.Sell, 6, 0, 3, 7))...)
			l, e := book.Depth(often{s, 1<<23 - 1}, api.Sell, 9)
			want(t, "error", e, c.fault)
			list(t, "levels", l, c.l)
		})
	}
}
