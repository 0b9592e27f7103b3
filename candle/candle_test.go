package candle_test

import (
	"fmt"
	"math"
	"slices"
	"testing"

	"bourse/api"
	"bourse/candle"
)

const (
	least = math.MinInt64
	most  = math.MaxInt64
)

// want: a test fails, if something is another thing than was wanted.
func want[T comparable](t *testing.T, what string, got, wanted T) {
	t.Helper()
	if got != wanted {
		t.Errorf("%s: %v, wanted %v", what, got, wanted)
	}
}

// list: as want, of lists.
func list[T comparable](t *testing.T, what string, got []T, wanted ...T) {
	t.Helper()
	if !slices.Equal(got, wanted) {
		t.Errorf("%s: %v, wanted %v", what, got, wanted)
	}
}

// candleOf: its parts in the order in which they are declared.
func candleOf(first, high, low, last, size int64, trades int) candle.Candle {
	return candle.Candle{First: first, High: high, Low: low, Last: last, Size: size, Trades: trades}
}

// TestOne is P35.1: of one trade, whatever its numbers.
func TestOne(t *testing.T) {
	for _, n := range []int64{5, 0, -1, 1 << 40, most, least} {
		for _, size := range []int64{1, 0, -7, most, least} {
			want(t, fmt.Sprint("one at ", n, " of ", size), candle.One(n, size), candleOf(n, n, n, n, size, 1))
		}
	}
}

// TestJoin is P35.1: one behind the other, each part by hand.
func TestJoin(t *testing.T) {
	one := candle.One
	for what, c := range map[string]struct{ c, d, wanted candle.Candle }{
		"a rise":             {one(5, 1), one(7, 2), candleOf(5, 7, 5, 7, 3, 2)},
		"a fall":             {one(7, 1), one(5, 2), candleOf(7, 7, 5, 5, 3, 2)},
		"the same":           {one(5, 1), one(5, 2), candleOf(5, 5, 5, 5, 3, 2)},
		"wide ahead":         {candleOf(5, 9, 1, 6, 10, 4), candleOf(4, 8, 2, 7, 20, 3), candleOf(5, 9, 1, 7, 30, 7)},
		"wide behind":        {candleOf(4, 8, 2, 7, 20, 3), candleOf(5, 9, 1, 6, 10, 4), candleOf(4, 9, 1, 6, 30, 7)},
		"high ahead":         {candleOf(4, 9, 2, 7, 20, 3), candleOf(5, 8, 1, 6, 10, 4), candleOf(4, 9, 1, 6, 30, 7)},
		"low ahead":          {candleOf(4, 8, 1, 7, 20, 3), candleOf(5, 9, 2, 6, 10, 4), candleOf(4, 9, 1, 6, 30, 7)},
		"below 0":            {one(-5, -1), one(-7, -2), candleOf(-5, -5, -7, -7, -3, 2)},
		"the ends of prices": {one(least, 1), one(most, 2), candleOf(least, most, least, most, 3, 2)},
		"the greatest size":  {one(1, most), one(2, 0), candleOf(1, 2, 1, 2, most, 2)},
		"up to it":           {one(1, most-5), one(2, 5), candleOf(1, 2, 1, 2, most, 2)},
		"halves of it":       {one(1, 1<<62), one(2, 1<<62-1), candleOf(1, 2, 1, 2, most, 2)},
		"the least size":     {one(1, least), one(2, 0), candleOf(1, 2, 1, 2, least, 2)},
		"down to it":         {one(1, -5), one(2, least+5), candleOf(1, 2, 1, 2, least, 2)},
		"both ends":          {one(1, most), one(2, least), candleOf(1, 2, 1, 2, -1, 2)},
		// Parts that no trades made are taken as they are.
		"a high below a low": {candleOf(1, 2, 3, 4, 5, 6), candleOf(9, 1, 8, 7, 5, 6), candleOf(1, 2, 3, 7, 10, 12)},
		"less than none":     {candleOf(1, 2, 1, 2, 3, -4), candleOf(5, 6, 5, 6, 7, -8), candleOf(1, 6, 1, 6, 10, -12)},
		// Trades go round.
		"as many as can be":        {candleOf(1, 1, 1, 1, 1, most), one(2, 1), candleOf(1, 2, 1, 2, 2, least)},
		"as few as can be":         {candleOf(1, 1, 1, 1, 1, least), candleOf(2, 2, 2, 2, 1, -1), candleOf(1, 2, 1, 2, 2, most)},
		"round to none":            {candleOf(1, 1, 1, 1, 1, least), candleOf(2, 2, 2, 2, 1, least), candleOf(1, 2, 1, 2, 2, 0)},
		"twice as many as can be":  {candleOf(1, 1, 1, 1, 1, most), candleOf(2, 2, 2, 2, 1, most), candleOf(1, 2, 1, 2, 2, -2)},
		"as many, and less by one": {candleOf(1, 1, 1, 1, 1, 1), candleOf(2, 2, 2, 2, 1, -1), candleOf(1, 2, 1, 2, 2, 0)},
	} {
		got, e := c.c.Join(c.d)
		want(t, what, got, c.wanted)
		want(t, what+": error", e, api.OK)
	}
}

// TestJoinNone is P35.1: where one has no Trades the other one stands as it is, whatever the one's other parts are.
func TestJoinNone(t *testing.T) {
	for _, none := range []candle.Candle{{}, candleOf(1, 100, -100, 2, most, 0), candleOf(8, 8, 8, 8, least, 0)} {
		for _, some := range []candle.Candle{candle.One(5, 3), candleOf(5, 9, 1, 6, most, 4), candleOf(7, 7, 7, 7, least, -1), candleOf(3, 2, 4, 1, -5, least)} {
			what := fmt.Sprint(none, " and ", some)
			c, e := none.Join(some)
			want(t, what+": behind none", c, some)
			want(t, what+": behind none, error", e, api.OK)
			c, e = some.Join(none)
			want(t, what+": ahead of none", c, some)
			want(t, what+": ahead of none, error", e, api.OK)
		}
	}
	c, e := candle.Candle{}.Join(candle.Candle{})
	want(t, "none and none", c, candle.Candle{})
	want(t, "none and none: error", e, api.OK)
	c, e = candleOf(1, 1, 1, 1, most, 0).Join(candleOf(2, 2, 2, 2, most, 0))
	want(t, "two that have none: there is no sum", e, api.OK)
	want(t, "two that have none: the other one of the first", c, candleOf(2, 2, 2, 2, most, 0))
}

// TestJoinOver is P35.1: a Size that would be beyond the ends, and nothing beside the error.
func TestJoinOver(t *testing.T) {
	for _, c := range [][2]int64{
		{most, 1}, {1, most}, {most, most}, {1 << 62, 1 << 62}, {most - 5, 6},
		{least, -1}, {-1, least}, {least, least}, {-1 << 62, -1<<62 - 1}, {least + 5, -6},
	} {
		got, e := candle.One(5, c[0]).Join(candle.One(7, c[1]))
		want(t, fmt.Sprint("sizes ", c), e, api.ErrOver)
		want(t, fmt.Sprint("sizes ", c, ": beside it"), got, candle.Candle{})
	}
}

// TestJoinStays: a candle that is asked stays as it is, and so does the other one.
func TestJoinStays(t *testing.T) {
	c, d := candleOf(5, 9, 1, 6, 10, 4), candle.One(7, 8)
	c.Join(d)
	want(t, "the one", c, candleOf(5, 9, 1, 6, 10, 4))
	want(t, "the other", d, candle.One(7, 8))
}

// TestBody is P35.2: Last less First, cut at the ends; no other part counts.
func TestBody(t *testing.T) {
	for _, c := range []struct{ first, last, wanted int64 }{
		{5, 8, 3},
		{8, 5, -3},
		{5, 5, 0},
		{0, most, most},
		{0, least, least},
		{-1, most, most},
		{-2, most, most},
		{1, most, most - 1},
		{0, -most, -most},
		{1, -most, least},
		{2, -most, least},
		{1, least, least},
		{-1, least, least + 1},
		{least, 0, most},
		{least, -1, most},
		{least, -2, most - 1},
		{most, 0, -most},
		{most, -1, least},
		{most, -2, least},
		{least, most, most},
		{most, least, least},
		{least, least, 0},
		{most, most, 0},
		{-1 << 62, 1 << 62, most},
		{-1 << 62, 1<<62 - 1, most},
		{1 << 62, -1 << 62, least},
		{1<<62 + 1, -1 << 62, least},
	} {
		what := fmt.Sprint("from ", c.first, " to ", c.last)
		want(t, what, candleOf(c.first, 1, 2, c.last, 3, 4).Body(), c.wanted)
		want(t, what+": without trades", candleOf(c.first, 0, 0, c.last, 0, 0).Body(), c.wanted)
	}
	want(t, "of none", candle.Candle{}.Body(), 0)
}

// TestTrades is P35.2: prices and sizes, whatever they are; and P35.1's At.
func TestTrades(t *testing.T) {
	l := []api.Trade{{Maker: 9, Taker: 8, Price: 5, Size: 1}, {Maker: 1, Price: -7, Size: 0}, {Taker: 1, Price: most, Size: least}, {Price: least, Size: most}, {}}
	kept := slices.Clone(l)
	ticks := candle.Trades(l[:4])
	list(t, "ticks", ticks, candle.Tick{Price: 5, Size: 1}, candle.Tick{Price: -7}, candle.Tick{Price: most, Size: least}, candle.Tick{Price: least, Size: most})
	for i, k := range ticks {
		price, size := k.At()
		want(t, fmt.Sprint("the price of ", k), price, l[i].Price)
		want(t, fmt.Sprint("the size of ", k), size, l[i].Size)
	}
	list(t, "what was handed in", l, kept...)
	list(t, "of nothing", candle.Trades(nil))
	list(t, "of an empty list", candle.Trades([]api.Trade{}))
	ticks[0].Price = 77
	list(t, "once more", candle.Trades(l[:1]), candle.Tick{Price: 5, Size: 1})
}
