package candle_test

import (
	"fmt"
	"slices"
	"testing"

	"bourse/api"
	"bourse/candle"
)

// ticks: of prices; their sizes are 1, 2, 4 ..
func ticks(prices ...int64) []candle.Tick {
	var l []candle.Tick
	for i, p := range prices {
		l = append(l, candle.Tick{Price: p, Size: 1 << i})
	}
	return l
}

// sized: things at one price, of these sizes.
func sized(sizes ...int64) []candle.Tick {
	var l []candle.Tick
	for _, n := range sizes {
		l = append(l, candle.Tick{Price: 1, Size: n})
	}
	return l
}

// ones: of each thing one candle.
func ones(l []candle.Tick) []candle.Candle {
	var out []candle.Candle
	for _, k := range l {
		out = append(out, candle.One(k.Price, k.Size))
	}
	return out
}

// TestOf is P35.2: of each so many one, in order, the last ones perhaps fewer; and Fold, of candles of one thing each, likewise.
func TestOf(t *testing.T) {
	five := ticks(5, 7, 4, 6, 8)
	whole := candleOf(5, 8, 4, 8, 31, 5)
	for _, c := range []struct {
		l      []candle.Tick
		every  int
		wanted []candle.Candle
	}{
		{ticks(5, 7, 6), 3, []candle.Candle{candleOf(5, 7, 5, 6, 7, 3)}},
		{five, 1, ones(five)},
		{five, 2, []candle.Candle{candleOf(5, 7, 5, 7, 3, 2), candleOf(4, 6, 4, 6, 12, 2), candle.One(8, 16)}},
		{five, 3, []candle.Candle{candleOf(5, 7, 4, 4, 7, 3), candleOf(6, 8, 6, 8, 24, 2)}},
		{five, 4, []candle.Candle{candleOf(5, 7, 4, 6, 15, 4), candle.One(8, 16)}},
		{five, 5, []candle.Candle{whole}},
		{five, 6, []candle.Candle{whole}},
		{five, most, []candle.Candle{whole}},
		{five[:4], 2, []candle.Candle{candleOf(5, 7, 5, 7, 3, 2), candleOf(4, 6, 4, 6, 12, 2)}},
		{five[:1], 1, []candle.Candle{candle.One(5, 1)}},
		{five[:1], most, []candle.Candle{candle.One(5, 1)}},
		{nil, 1, nil},
		{nil, most, nil},
		{[]candle.Tick{}, 7, nil},
		{[]candle.Tick{{Price: least, Size: -3}, {Price: most, Size: least + 3}}, 2, []candle.Candle{candleOf(least, most, least, most, least, 2)}},
	} {
		what := fmt.Sprint("each ", c.every, " of ", c.l)
		l, e := candle.Of(c.l, c.every)
		list(t, what, l, c.wanted...)
		want(t, what+": error", e, api.OK)
		l, e = candle.Fold(ones(c.l), c.every)
		list(t, what+": Fold", l, c.wanted...)
		want(t, what+": Fold's error", e, api.OK)
	}
}

// TestFold is P35.2: candles of more than one trade, and of none, each as it is, one behind the other.
func TestFold(t *testing.T) {
	wide, none := candleOf(5, 9, 1, 6, 10, 4), candleOf(77, 78, 79, 80, most, 0)
	round := candleOf(3, 3, 3, 3, 1, least)
	for _, c := range []struct {
		what   string
		l      []candle.Candle
		every  int
		wanted []candle.Candle
	}{
		{"each one", []candle.Candle{wide, none, {}}, 1, []candle.Candle{wide, none, {}}},
		{"two", []candle.Candle{wide, candleOf(4, 8, 2, 7, 20, 3)}, 2, []candle.Candle{candleOf(5, 9, 1, 7, 30, 7)}},
		{"none ahead", []candle.Candle{none, wide}, 2, []candle.Candle{wide}},
		{"none behind", []candle.Candle{wide, none}, 2, []candle.Candle{wide}},
		{"none between", []candle.Candle{wide, none, wide}, 3, []candle.Candle{candleOf(5, 9, 1, 6, 20, 8)}},
		{"none alone", []candle.Candle{wide, wide, none}, 2, []candle.Candle{candleOf(5, 9, 1, 6, 20, 8), none}},
		{"that go round to none", []candle.Candle{round, round}, 2, []candle.Candle{candleOf(3, 3, 3, 3, 2, 0)}},
		{"that went round to none on the way", []candle.Candle{round, round, wide}, 3, []candle.Candle{wide}},
	} {
		l, e := candle.Fold(c.l, c.every)
		list(t, c.what, l, c.wanted...)
		want(t, c.what+": error", e, api.OK)
	}
}

// TestSpansErrors is P35.2: ErrArg ahead of Join's error, which any span may have; nothing beside an error.
func TestSpansErrors(t *testing.T) {
	for _, c := range []struct {
		sizes []int64
		every int
		e     api.Errno
	}{
		{[]int64{1, 2}, 0, api.ErrArg},
		{[]int64{1, 2}, -1, api.ErrArg},
		{[]int64{1, 2}, least, api.ErrArg},
		{nil, 0, api.ErrArg},
		{nil, -5, api.ErrArg},
		{[]int64{most, 1}, 0, api.ErrArg},
		{[]int64{most, 1}, 1, api.OK},
		{[]int64{most, 1}, 2, api.ErrOver},
		{[]int64{most, 1}, most, api.ErrOver},
		{[]int64{1, most}, 2, api.ErrOver},
		{[]int64{least, -1}, 2, api.ErrOver},
		{[]int64{1, 2, 3, 4, most, 1}, 2, api.ErrOver},
		{[]int64{1, 2, 3, 4, most, 1, 5, 6}, 2, api.ErrOver},
		{[]int64{1, most, 3}, 2, api.ErrOver},
		{[]int64{0, most, 1, most - 1, most}, 2, api.OK},
		{[]int64{1 << 62, 1<<62 - 1, 1, 5, 5, 5}, 3, api.ErrOver},
		// One behind the other: what goes beyond the end on the way doesn't come back.
		{[]int64{most, 1, -1}, 3, api.ErrOver},
		{[]int64{most, -1, 1}, 3, api.OK},
		{[]int64{-1, 1, most}, 3, api.OK},
		{[]int64{least, -1, 1}, 3, api.ErrOver},
	} {
		what := fmt.Sprint("each ", c.every, " of ", c.sizes)
		l, e := candle.Of(sized(c.sizes...), c.every)
		want(t, what, e, c.e)
		want(t, what+": is there something", len(l) > 0, c.e == api.OK)
		l, e = candle.Fold(ones(sized(c.sizes...)), c.every)
		want(t, what+": Fold", e, c.e)
		want(t, what+": is there something of Fold", len(l) > 0, c.e == api.OK)
	}
}

// price is a thing of another sort: its size is twice it.
type price int64

func (p price) At() (int64, int64) { return int64(p), 2 * int64(p) }

// clerk tells a price, and counts how often it was asked, and who was asked ahead of it.
type clerk struct {
	price, asked int64
	all          *[]int64
}

func (c *clerk) At() (int64, int64) {
	c.asked++
	*c.all = append(*c.all, c.price)
	return c.price, c.asked
}

// TestAnySort is P35.2: things of any sort that is priced; each is asked once, in order.
func TestAnySort(t *testing.T) {
	l, e := candle.Of([]price{3, 1, 2}, 2)
	list(t, "prices", l, candleOf(3, 3, 1, 1, 8, 2), candle.One(2, 4))
	want(t, "prices: error", e, api.OK)

	l, e = candle.Of([]candle.Priced{price(3), candle.Tick{Price: 5, Size: 7}, &candle.Tick{Price: 4, Size: 1}}, 3)
	list(t, "many sorts", l, candleOf(3, 5, 3, 4, 14, 3))
	want(t, "many sorts: error", e, api.OK)

	var asked []int64
	clerks := []*clerk{{price: 9, all: &asked}, {price: 8, all: &asked}, {price: 3, all: &asked}}
	l, e = candle.Of(clerks, 2)
	list(t, "clerks", l, candleOf(9, 9, 8, 8, 2, 2), candle.One(3, 1))
	want(t, "clerks: error", e, api.OK)
	list(t, "who was asked", asked, 9, 8, 3)
	_, e = candle.Of(clerks, 0)
	want(t, "clerks that aren't asked", e, api.ErrArg)
	list(t, "who was asked then", asked, 9, 8, 3)
}

// hole is a thing that panics.
type hole struct{}

func (hole) At() (int64, int64) { panic("no price") }

// TestNoPanic is P1: what can't tell its price and size has neither, and nothing panics.
func TestNoPanic(t *testing.T) {
	l, e := candle.Of([]*candle.Tick{{Price: 5, Size: 2}, nil, nil, {Price: 7, Size: 4}}, 2)
	list(t, "nil pointers", l, candleOf(5, 5, 0, 0, 2, 2), candleOf(0, 7, 0, 7, 4, 2))
	want(t, "nil pointers: error", e, api.OK)
	l, e = candle.Of([]candle.Priced{hole{}, candle.Tick{Price: -1, Size: 1}}, 2)
	list(t, "one that panics", l, candleOf(0, 0, -1, -1, 1, 2))
	want(t, "one that panics: error", e, api.OK)
}

// TestStays: what is handed in, spare room included, stays; an answer is new memory.
func TestStays(t *testing.T) {
	things := ticks(5, 7, 4, 6, 8, 3, 9)
	candles := ones(things)
	keptThings, keptCandles := slices.Clone(things), slices.Clone(candles)
	for every := range 8 {
		candle.Of(things[:5], every)
		candle.Fold(candles[:5], every)
	}
	list(t, "things", things, keptThings...)
	list(t, "candles", candles, keptCandles...)

	l, _ := candle.Fold(candles, 1)
	l[0].First = 99
	list(t, "candles behind a change of the answer", candles, keptCandles...)
	m, _ := candle.Fold(candles, 1)
	list(t, "once more", m, keptCandles...)
}
