package match_test

import (
	"fmt"
	"math"
	"slices"
	"testing"

	"bourse/api"
	"bourse/book"
	"bourse/match"
	"bourse/overlay"
	"bourse/schema"
)

const (
	greatest = math.MaxInt64
	least    = math.MinInt64
)

// want: a test fails, if something is another thing than was wanted.
func want[T comparable](t *testing.T, what string, got, wanted T) {
	t.Helper()
	if got != wanted {
		t.Errorf("%s: %+v, wanted %+v", what, got, wanted)
	}
}

// list: as want, of lists.
func list[T comparable](t *testing.T, what string, got, wanted []T) {
	t.Helper()
	if !slices.Equal(got, wanted) {
		t.Errorf("%s: %+v, wanted %+v", what, got, wanted)
	}
}

// rests: an order that does.
func rests(side int, price int64, rank, id uint64, left int64) api.Order {
	return api.Order{ID: id, Account: 7, Side: side, Price: price, Size: left, Left: left, Rank: rank, State: api.Resting}
}

// put: orders, which must be.
func put(t *testing.T, orders ...api.Order) *overlay.Overlay {
	t.Helper()
	o := overlay.Over(nil)
	for _, x := range orders {
		want(t, fmt.Sprintf("Put of %+v", x), book.Put(o, x), api.OK)
	}
	return o
}

// crowd: orders that rest on both sides, in no order, and others; of one some is done already.
func crowd() []api.Order {
	closed, filled, part := rests(api.Buy, 5, 0, 40, 5), rests(api.Sell, 6, 0, 41, 5), rests(api.Sell, 7, 2, 4, 4)
	closed.State, filled.Left, filled.State, part.Size = api.Cancelled, 0, api.Filled, 90
	return []api.Order{
		rests(api.Sell, 7, 3, 1, 2), rests(api.Sell, 6, 9, 2, 3), rests(api.Sell, 10, 0, 3, 5), part, rests(api.Sell, 7, 3, 5, 1),
		rests(api.Buy, 5, 7, 6, 2), rests(api.Buy, 3, 0, 7, 4), rests(api.Buy, 5, 4, 8, 3), rests(api.Buy, 1, 1, 9, 6), closed, filled,
	}
}

// bite is a fill, told shortly: the maker's number, and how much of it.
type bite struct {
	id   uint64
	size int64
}

// fills: bites of the crowd, as they are told.
func fills(l []bite) []match.Fill {
	var all []match.Fill
	for _, b := range l {
		i := slices.IndexFunc(crowd(), func(x api.Order) bool { return x.ID == b.id })
		all = append(all, match.Fill{Maker: crowd()[i], Size: b.size})
	}
	return all
}

// planned: a Plan's answer, and that nothing is changed.
func planned(t *testing.T, o *overlay.Overlay, taker match.Taker, wanted []match.Fill, left int64, fault api.Errno) {
	t.Helper()
	mark := o.Mark()
	l, n, e := match.Plan(o, taker)
	what := fmt.Sprintf("%+v", taker)
	list(t, what, l, wanted)
	want(t, what+": what is left", n, left)
	want(t, what+": error", e, fault)
	want(t, what+": Mark", o.Mark(), mark)
}

// TestExample: the chapter's.
func TestExample(t *testing.T) {
	x := rests(api.Sell, 2, 1, 1, 2)
	planned(t, put(t, x), match.Taker{Side: api.Buy, Price: 3, Size: 5, Cash: -1}, []match.Fill{{Maker: x, Size: 2}}, 3, api.OK)
}

// TestPlan: P25.1, in the book's order, as long as something is left, and each meets the price; of all prices, of 0.
func TestPlan(t *testing.T) {
	o := put(t, crowd()...)
	for _, c := range []struct {
		side        int
		price, size int64
		l           []bite
		left        int64
	}{
		{api.Buy, 5, 9, nil, 9},
		{api.Buy, 6, 1, []bite{{2, 1}}, 0},
		{api.Buy, 6, 3, []bite{{2, 3}}, 0},
		{api.Buy, 6, 4, []bite{{2, 3}}, 1},
		{api.Buy, 7, 4, []bite{{2, 3}, {4, 1}}, 0},
		{api.Buy, 7, 7, []bite{{2, 3}, {4, 4}}, 0},
		{api.Buy, 7, 8, []bite{{2, 3}, {4, 4}, {1, 1}}, 0},
		{api.Buy, 9, 10, []bite{{2, 3}, {4, 4}, {1, 2}, {5, 1}}, 0},
		{api.Buy, 9, 11, []bite{{2, 3}, {4, 4}, {1, 2}, {5, 1}}, 1},
		{api.Buy, 10, 11, []bite{{2, 3}, {4, 4}, {1, 2}, {5, 1}, {3, 1}}, 0},
		{api.Buy, 0, 12, []bite{{2, 3}, {4, 4}, {1, 2}, {5, 1}, {3, 2}}, 0},
		{api.Buy, 0, 99, []bite{{2, 3}, {4, 4}, {1, 2}, {5, 1}, {3, 5}}, 84},
		{api.Buy, greatest, greatest, []bite{{2, 3}, {4, 4}, {1, 2}, {5, 1}, {3, 5}}, greatest - 15},
		{api.Buy, -1, 9, nil, 9},
		{api.Buy, least, 9, nil, 9},
		{api.Sell, 6, 9, nil, 9},
		{api.Sell, greatest, 9, nil, 9},
		{api.Sell, 5, 3, []bite{{8, 3}}, 0},
		{api.Sell, 5, 6, []bite{{8, 3}, {6, 2}}, 1},
		{api.Sell, 4, 6, []bite{{8, 3}, {6, 2}}, 1},
		{api.Sell, 3, 6, []bite{{8, 3}, {6, 2}, {7, 1}}, 0},
		{api.Sell, 2, 10, []bite{{8, 3}, {6, 2}, {7, 4}}, 1},
		{api.Sell, 1, 10, []bite{{8, 3}, {6, 2}, {7, 4}, {9, 1}}, 0},
		{api.Sell, 0, 10, []bite{{8, 3}, {6, 2}, {7, 4}, {9, 1}}, 0},
		{api.Sell, 0, greatest, []bite{{8, 3}, {6, 2}, {7, 4}, {9, 6}}, greatest - 15},
		{api.Sell, least, 16, []bite{{8, 3}, {6, 2}, {7, 4}, {9, 6}}, 1},
	} {
		for _, cash := range []int64{-1, least} {
			planned(t, o, match.Taker{Side: c.side, Price: c.price, Size: c.size, Cash: cash}, fills(c.l), c.left, api.OK)
		}
		if c.side == api.Buy {
			planned(t, o, match.Taker{Side: c.side, Price: c.price, Size: c.size, Cash: greatest}, fills(c.l), c.left, api.OK)
		}
	}
	planned(t, put(t), match.Taker{Side: api.Buy, Size: 5, Cash: -1}, nil, 5, api.OK)
	planned(t, put(t, rests(api.Buy, 5, 1, 1, 1)), match.Taker{Side: api.Buy, Size: 5, Cash: -1}, nil, 5, api.OK)
}

// TestPlanCash: P25.1, where a taker has Cash, as much as it can afford; behind one of which it can't all, nobody.
func TestPlanCash(t *testing.T) {
	o := put(t, crowd()...)
	for _, c := range []struct {
		side              int
		price, size, cash int64
		l                 []bite
		left              int64
	}{
		{api.Buy, 0, 9, 0, nil, 9},
		{api.Buy, 0, 9, 5, nil, 9},
		{api.Buy, 0, 9, 6, []bite{{2, 1}}, 8},
		{api.Buy, 0, 9, 17, []bite{{2, 2}}, 7},
		{api.Buy, 0, 9, 18, []bite{{2, 3}}, 6},
		{api.Buy, 0, 9, 24, []bite{{2, 3}}, 6},
		{api.Buy, 0, 9, 25, []bite{{2, 3}, {4, 1}}, 5},
		{api.Buy, 0, 9, 45, []bite{{2, 3}, {4, 3}}, 3},
		{api.Buy, 0, 9, 46, []bite{{2, 3}, {4, 4}}, 2},
		{api.Buy, 0, 9, 59, []bite{{2, 3}, {4, 4}, {1, 1}}, 1},
		{api.Buy, 0, 9, 60, []bite{{2, 3}, {4, 4}, {1, 2}}, 0},
		{api.Buy, 0, 99, 67, []bite{{2, 3}, {4, 4}, {1, 2}, {5, 1}}, 89},
		{api.Buy, 0, 99, 76, []bite{{2, 3}, {4, 4}, {1, 2}, {5, 1}}, 89},
		{api.Buy, 0, 99, 77, []bite{{2, 3}, {4, 4}, {1, 2}, {5, 1}, {3, 1}}, 88},
		{api.Buy, 6, 9, 99, []bite{{2, 3}}, 6},
		{api.Buy, 7, 9, 25, []bite{{2, 3}, {4, 1}}, 5},
		{api.Buy, 5, 9, 99, nil, 9},
		{api.Buy, 0, 4, 25, []bite{{2, 3}, {4, 1}}, 0},
		// Of a Sell, too: behind the first of which it can't afford all, the cheaper ones aren't met.
		{api.Sell, 0, 9, 0, nil, 9},
		{api.Sell, 0, 9, 4, nil, 9},
		{api.Sell, 0, 9, 14, []bite{{8, 2}}, 7},
		{api.Sell, 0, 9, 19, []bite{{8, 3}}, 6},
		{api.Sell, 0, 9, 25, []bite{{8, 3}, {6, 2}}, 4},
		{api.Sell, 0, 9, 28, []bite{{8, 3}, {6, 2}, {7, 1}}, 3},
	} {
		planned(t, o, match.Taker{Side: c.side, Price: c.price, Size: c.size, Cash: c.cash}, fills(c.l), c.left, api.OK)
	}
}

// TestPlanEnds: P25.1, costs beyond 2^63 - 1 aren't reckoned.
func TestPlanEnds(t *testing.T) {
	const most = 1 << 40
	l := []api.Order{rests(api.Sell, most, 1, 1, most), rests(api.Sell, most, 2, 2, most)}
	o := put(t, l...)
	both := []match.Fill{{Maker: l[0], Size: most}, {Maker: l[1], Size: most}}
	planned(t, o, match.Taker{Side: api.Buy, Price: most, Size: greatest, Cash: -1}, both, greatest-2*most, api.OK)
	planned(t, o, match.Taker{Side: api.Buy, Size: 2*most - 1, Cash: -1}, []match.Fill{both[0], {Maker: l[1], Size: most - 1}}, 0, api.OK)
	planned(t, o, match.Taker{Side: api.Buy, Size: greatest, Cash: greatest}, []match.Fill{{Maker: l[0], Size: 1<<23 - 1}}, greatest-(1<<23-1), api.OK)
	planned(t, o, match.Taker{Side: api.Buy, Size: greatest, Cash: most}, []match.Fill{{Maker: l[0], Size: 1}}, greatest-1, api.OK)
	planned(t, o, match.Taker{Side: api.Buy, Size: greatest, Cash: most - 1}, nil, greatest, api.OK)
}

// TestPlanNobody: P25.1, of a size below 1, or a side that is none, what is left is the size; the book isn't looked at.
func TestPlanNobody(t *testing.T) {
	broken := put(t, crowd()...)
	broken.Put(schema.Place(rests(api.Sell, 1, 0, 50, 1)), "")
	broken.Put(schema.Place(rests(api.Buy, 99, 0, 51, 1)), "")
	for _, o := range []*overlay.Overlay{put(t, crowd()...), broken, put(t), nil} {
		for _, price := range []int64{0, 1, 7, greatest} {
			for _, cash := range []int64{-1, 0, 99} {
				for _, side := range []int{api.Buy, api.Sell} {
					for _, size := range []int64{0, -1, least} {
						planned(t, o, match.Taker{Side: side, Price: price, Size: size, Cash: cash}, nil, size, api.OK)
					}
				}
				for _, side := range []int{0, 3, -1, -2, 1 + 1<<32, least, greatest} {
					for _, size := range []int64{0, -1, least, 1, 5, greatest} {
						planned(t, o, match.Taker{Side: side, Price: price, Size: size, Cash: cash}, nil, size, api.OK)
					}
				}
			}
		}
	}
	planned(t, nil, match.Taker{Side: api.Buy, Size: 5, Cash: -1}, nil, 5, api.OK)
}

// TestPlanErrors: P25.1, the first error that is come to, and nothing beside it; what stands behind all that is taken isn't come to.
func TestPlanErrors(t *testing.T) {
	for _, c := range []struct {
		what, key string
		ahead     []bite
		fault     api.Errno
	}{
		{"a place of none, ahead of all", schema.Place(rests(api.Sell, 1, 0, 50, 4)), nil, api.ErrBroken},
		{"a place of another rank", schema.Place(rests(api.Sell, 7, 3, 4, 4)), []bite{{2, 3}, {4, 4}, {1, 2}}, api.ErrBroken},
		{"a place of none", schema.Place(rests(api.Sell, 7, 3, 50, 4)), []bite{{2, 3}, {4, 4}, {1, 2}, {5, 1}}, api.ErrBroken},
		{"a place of one that is filled", schema.Place(rests(api.Sell, 6, 99, 41, 4)), []bite{{2, 3}}, api.ErrBroken},
		{"no place's key", schema.Place(rests(api.Sell, 7, 3, 1, 2)) + "x", []bite{{2, 3}, {4, 4}, {1, 2}}, api.ErrKey},
		{"behind all", schema.Place(rests(api.Sell, 11, 0, 50, 4)), []bite{{2, 3}, {4, 4}, {1, 2}, {5, 1}, {3, 5}}, api.ErrBroken},
	} {
		o := put(t, crowd()...)
		o.Put(c.key, "")
		var size, cost int64
		for _, f := range fills(c.ahead) {
			size += f.Size
			cost += f.Size * f.Maker.Price
		}
		planned(t, o, match.Taker{Side: api.Buy, Size: size, Cash: -1}, fills(c.ahead), 0, api.OK)
		planned(t, o, match.Taker{Side: api.Buy, Price: 10, Size: size, Cash: cost}, fills(c.ahead), 0, api.OK)
		for _, cash := range []int64{-1, cost, greatest} {
			planned(t, o, match.Taker{Side: api.Buy, Size: size + 1, Cash: cash}, nil, 0, c.fault)
			planned(t, o, match.Taker{Side: api.Buy, Price: 10, Size: greatest, Cash: cash}, nil, 0, c.fault)
		}
		planned(t, o, match.Taker{Side: api.Sell, Size: 5, Cash: -1}, fills([]bite{{8, 3}, {6, 2}}), 0, api.OK)
	}
	o := put(t, crowd()...)
	o.Put(schema.Place(rests(api.Sell, 9, 0, 50, 4)), "")
	planned(t, o, match.Taker{Side: api.Buy, Price: 6, Size: 9, Cash: -1}, fills([]bite{{2, 3}}), 6, api.OK)
	planned(t, o, match.Taker{Side: api.Buy, Price: 7, Size: 99, Cash: -1}, nil, 0, api.ErrBroken)
	planned(t, o, match.Taker{Side: api.Buy, Size: 9, Cash: 45}, fills([]bite{{2, 3}, {4, 3}}), 3, api.OK)
	o = put(t, crowd()...)
	o.Put(schema.Order(4), "\x80")
	planned(t, o, match.Taker{Side: api.Buy, Price: 6, Size: 3, Cash: -1}, fills([]bite{{2, 3}}), 0, api.OK)
	planned(t, o, match.Taker{Side: api.Buy, Price: 6, Size: 4, Cash: -1}, nil, 0, api.ErrShort)
}

// TestPlanIsNew: the Rules: an answer is new memory, and asked again it is the same.
func TestPlanIsNew(t *testing.T) {
	o := put(t, crowd()...)
	taker := match.Taker{Side: api.Buy, Price: 7, Size: 8, Cash: 99}
	l, _, _ := match.Plan(o, taker)
	l[0] = match.Fill{}
	_ = append(l, match.Fill{})
	planned(t, o, taker, fills([]bite{{2, 3}, {4, 4}, {1, 1}}), 0, api.OK)
	want(t, "the taker", taker, match.Taker{Side: api.Buy, Price: 7, Size: 8, Cash: 99})
}
