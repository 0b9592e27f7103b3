package walk_test

import (
	"fmt"
	"math"
	"slices"
	"strings"
	"testing"

	"bourse/api"
	"bourse/walk"
)

// want: a test fails, if something is another thing than was wanted.
func want[T comparable](t *testing.T, what string, got, wanted T) {
	t.Helper()
	if got != wanted {
		t.Errorf("%s: %v, wanted %v", what, got, wanted)
	}
}

// trades: of prices and sizes, one behind the other.
func trades(l ...int64) []api.Trade {
	var out []api.Trade
	for i := 0; i < len(l); i += 2 {
		out = append(out, api.Trade{Price: l[i], Size: l[i+1]})
	}
	return out
}

// list: what a row goes through, as one text.
func list(l []api.Trade) string { return fmt.Sprint(slices.Collect(walk.Places(l))) }

// none: no trade.
var none = walk.Path{Heading: 1}

// TestOf is P34.1: walks that are known by hand.
func TestOf(t *testing.T) {
	for _, c := range []struct {
		what   string
		trades []api.Trade
		path   walk.Path
		places string
		turned int
	}{
		{"none", nil, none, "[]", 0},
		{"an empty list", []api.Trade{}, none, "[]", 0},
		{"one", trades(5, 2), walk.Path{At: 2, Heading: 1, Steps: 1, High: 2}, "[(2+0i)]", 0},
		{"the first doesn't turn it, above 0", trades(900, 1), walk.Path{At: 1, Heading: 1, Steps: 1, High: 1}, "[(1+0i)]", 0},
		{"nor below 0", trades(-900, 1), walk.Path{At: 1, Heading: 1, Steps: 1, High: 1}, "[(1+0i)]", 0},
		{"a higher one", trades(5, 2, 6, 1), walk.Path{At: 2 + 1i, Heading: 1i, Steps: 2, High: 2 + 1i}, "[(2+0i) (2+1i)]", 1},
		{"a lower one", trades(5, 2, 4, 1), walk.Path{At: 2 - 1i, Heading: -1i, Steps: 2, Low: -1i, High: 2}, "[(2+0i) (2-1i)]", 1},
		{"the same", trades(5, 2, 5, 1), walk.Path{At: 3, Heading: 1, Steps: 2, High: 3}, "[(2+0i) (3+0i)]", 0},
		{"far higher", trades(1, 2, 1<<40, 1), walk.Path{At: 2 + 1i, Heading: 1i, Steps: 2, High: 2 + 1i}, "[(2+0i) (2+1i)]", 1},
		{"left four times", trades(1, 1, 2, 2, 3, 3, 4, 4, 5, 5), walk.Path{At: 3 - 2i, Heading: 1, Steps: 5, Low: -2 - 2i, High: 3 + 2i}, "[(1+0i) (1+2i) (-2+2i) (-2-2i) (3-2i)]", 4},
		{"right four times", trades(5, 1, 4, 2, 3, 3, 2, 4, 1, 5), walk.Path{At: 3 + 2i, Heading: 1, Steps: 5, Low: -2 - 2i, High: 3 + 2i}, "[(1+0i) (1-2i) (-2-2i) (-2+2i) (3+2i)]", 4},
		{"both ways", trades(5, 2, 6, 1, 4, 3, 3, 2), walk.Path{At: 5 - 1i, Heading: -1i, Steps: 4, Low: -1i, High: 5 + 1i}, "[(2+0i) (2+1i) (5+1i) (5-1i)]", 3},
		{"back to 0", trades(1, 3, 2, 0, 3, 3), walk.Path{At: 0, Heading: -1, Steps: 3, High: 3}, "[(3+0i) (3+0i) (0+0i)]", 2},
		{"the last one ends nowhere far", trades(1, 4, 2, 0, 3, 6), walk.Path{At: -2, Heading: -1, Steps: 3, Low: -2, High: 4}, "[(4+0i) (4+0i) (-2+0i)]", 2},
	} {
		want(t, c.what, walk.Of(c.trades), c.path)
		want(t, c.what+": places", list(c.trades), c.places)
		want(t, c.what+": corners", walk.Corners(c.trades), c.turned)
	}
}

// TestSizes is P34.1: sizes are cut to 1000, of one below 1 it doesn't go on.
func TestSizes(t *testing.T) {
	for size, wanted := range map[int64]complex128{
		0: 0, 1: 1, 2: 2, 999: 999, 1000: 1000, 1001: 1000, 1 << 40: 1000, math.MaxInt64: 1000,
		-1: 0, -1000: 0, -5000: 0, math.MinInt64: 0,
	} {
		want(t, fmt.Sprint("a size ", size), walk.Of(trades(7, size)), walk.Path{At: wanted, Heading: 1, Steps: 1, High: wanted})
		// One that doesn't go on turns it all the same.
		up := walk.Path{At: wanted * 1i, Heading: 1i, Steps: 2, High: wanted * 1i}
		want(t, fmt.Sprint("upward a size ", size), walk.Of(trades(7, 0, 8, size)), up)
		want(t, fmt.Sprint("the corners of a size ", size), walk.Corners(trades(7, size, 8, size, 8, size, 3, size)), 2)
		want(t, fmt.Sprint("the steps of a size ", size), walk.Of(trades(7, size, 8, size, 8, size, 3, size)).Steps, 4)
	}
}

// TestPrices is P34.1: prices at the ends of numbers, whose difference isn't one.
func TestPrices(t *testing.T) {
	low, high := int64(math.MinInt64), int64(math.MaxInt64)
	want(t, "up", walk.Of(trades(low, 1, high, 1)), walk.Path{At: 1 + 1i, Heading: 1i, Steps: 2, High: 1 + 1i})
	want(t, "down", walk.Of(trades(high, 1, low, 1)), walk.Path{At: 1 - 1i, Heading: -1i, Steps: 2, Low: -1i, High: 1})
	want(t, "from 0 down", walk.Of(trades(0, 1, low, 1)).Heading, -1i)
	want(t, "to 0 up", walk.Of(trades(low, 1, 0, 1)).Heading, 1i)
	want(t, "the same", walk.Of(trades(low, 1, low, 1)).Heading, 1)
	want(t, "by one", walk.Of(trades(high-1, 1, high, 1)).Heading, 1i)
	want(t, "corners", walk.Corners(trades(low, 1, high, 1, low, 1, low, 1, low+1, 1)), 3)
}

// TestThen is P34.1: one more trade, whatever walk it is.
func TestThen(t *testing.T) {
	far := walk.Path{At: 3 - 4i, Heading: -1i, Steps: 7, Low: -1 - 6i, High: 5 + 2i}
	for _, c := range []struct {
		what string
		from walk.Path
		last int64
		to   api.Trade
		path walk.Path
	}{
		{"the first", none, 0, api.Trade{Price: 5, Size: 2}, walk.Path{At: 2, Heading: 1, Steps: 1, High: 2}},
		{"behind a higher price that doesn't count", none, 9, api.Trade{Price: 5, Size: 2}, walk.Path{At: 2, Heading: 1, Steps: 1, High: 2}},
		{"behind a lower one", none, math.MinInt64, api.Trade{Price: 5, Size: 2}, walk.Path{At: 2, Heading: 1, Steps: 1, High: 2}},
		{"the same", far, 5, api.Trade{Price: 5, Size: 1}, walk.Path{At: 3 - 5i, Heading: -1i, Steps: 8, Low: -1 - 6i, High: 5 + 2i}},
		{"a new least", far, 5, api.Trade{Price: 5, Size: 3}, walk.Path{At: 3 - 7i, Heading: -1i, Steps: 8, Low: -1 - 7i, High: 5 + 2i}},
		{"left", far, 5, api.Trade{Price: 6, Size: 4}, walk.Path{At: 7 - 4i, Heading: 1, Steps: 8, Low: -1 - 6i, High: 7 + 2i}},
		{"right", far, 5, api.Trade{Price: 4, Size: 4}, walk.Path{At: -1 - 4i, Heading: -1, Steps: 8, Low: -1 - 6i, High: 5 + 2i}},
		{"right, to a new least", far, 5, api.Trade{Price: 4, Size: 5}, walk.Path{At: -2 - 4i, Heading: -1, Steps: 8, Low: -2 - 6i, High: 5 + 2i}},
		{"right, not at all", far, 5, api.Trade{Price: 4, Size: -5}, walk.Path{At: 3 - 4i, Heading: -1, Steps: 8, Low: -1 - 6i, High: 5 + 2i}},
		{"who did it doesn't matter", far, 5, api.Trade{Maker: 8, Taker: 9, Price: 4, Size: 4}, walk.Path{At: -1 - 4i, Heading: -1, Steps: 8, Low: -1 - 6i, High: 5 + 2i}},
	} {
		kept := c.from
		want(t, c.what, c.from.Then(c.last, c.to), c.path)
		want(t, c.what+": the path stays", c.from, kept)
	}
}

// TestPlaces is P34.1: a row that is gone through twice, or left.
func TestPlaces(t *testing.T) {
	l := trades(5, 2, 6, 1, 4, 3, 3, 2)
	row := walk.Places(l)
	for range 2 {
		want(t, "all", fmt.Sprint(slices.Collect(row)), "[(2+0i) (2+1i) (5+1i) (5-1i)]")
	}
	for n := range 4 {
		var some []complex128
		for at := range row {
			if some = append(some, at); len(some) > n {
				break
			}
		}
		want(t, fmt.Sprint("left behind ", n+1), slices.Equal(some, slices.Collect(row)[:n+1]), true)
	}
	for range walk.Places(nil) {
		t.Error("of none there is one")
	}
}

// TestStays: a list that is handed in, its spare room, too, stays as it is, and isn't kept.
func TestStays(t *testing.T) {
	l := trades(5, 2, 6, 1, 4, 3, 3, 2)
	kept := slices.Clone(l)
	row := walk.Places(l[:3])
	walk.Of(l[:3])
	walk.Corners(l[:3])
	walk.Draw(l[:3], 9)
	want(t, "places", fmt.Sprint(slices.Collect(row)), "[(2+0i) (2+1i) (5+1i)]")
	want(t, "the list stays", slices.Equal(l, kept), true)
	l[0].Size, l[1].Price = 70, 1
	want(t, "it isn't kept", fmt.Sprint(slices.Collect(row)), "[(2+0i) (2+1i) (5+1i)]")
}

// TestBox is P34.2's first half.
func TestBox(t *testing.T) {
	for _, c := range []struct {
		what       string
		path       walk.Path
		wide, high int
	}{
		{"no trade", none, 0, 0},
		{"one", walk.Of(trades(1, 4)), 4, 0},
		{"two", walk.Of(trades(1, 4, 2, 3)), 4, 3},
		{"on both sides", walk.Of(trades(1, 1, 2, 2, 3, 3, 4, 4, 5, 5)), 5, 4},
		{"far", walk.Of(trades(1, 1000, 1, 1000, 2, 1000)), 2000, 1000},
		{"made by hand", walk.Path{Low: -3 - 7i, High: 4 + 1i}, 7, 8},
	} {
		wide, high := c.path.Box()
		want(t, c.what+": wide", wide, c.wide)
		want(t, c.what+": high", high, c.high)
	}
}

// TestDraw is P34.2: grids that are known by hand.
func TestDraw(t *testing.T) {
	for _, c := range []struct {
		what   string
		trades []api.Trade
		rows   []string
	}{
		{"no trade", nil, []string{"O"}},
		{"one", trades(5, 1), []string{"OX"}},
		{"one, farther", trades(5, 4), []string{"O...X"}},
		{"one that stays", trades(5, 0), []string{"O"}},
		{"both ways", trades(5, 2, 6, 1, 4, 3, 3, 2), []string{"..+..+", "O.+...", ".....X"}},
		{"left", trades(1, 1, 2, 2, 3, 3, 4, 4, 5, 5), []string{"+..+..", "......", "..O+..", "......", "+....X"}},
		{"right", trades(5, 1, 4, 2, 3, 3, 2, 4, 1, 5), []string{"+....X", "......", "..O+..", "......", "+..+.."}},
		{"ends at 0", trades(1, 3, 2, 0, 3, 3), []string{"O..+"}},
		{"comes by at 0", trades(1, 3, 2, 0, 3, 3, 3, 1), []string{"XO..+"}},
		{"goes over 0", trades(1, 3, 2, 0, 3, 4), []string{"XO..+"}},
		{"ends where one ended", trades(1, 3, 2, 0, 3, 2, 2, 0, 1, 2), []string{"O+.X"}},
		{"twice at a place", trades(1, 3, 1, 0, 1, 1), []string{"O..+X"}},
		{"upward", trades(1, 0, 2, 2), []string{"X", ".", "O"}},
		{"downward", trades(2, 0, 1, 2), []string{"O", ".", "X"}},
	} {
		want(t, c.what, walk.Draw(c.trades, 9), strings.Join(c.rows, "\n")+"\n")
	}
}

// TestDrawMost is P34.2: how wide, and how high, a grid may be.
func TestDrawMost(t *testing.T) {
	wide, high := trades(5, 6, 6, 3), trades(5, 3, 6, 6)
	for _, l := range [][]api.Trade{wide, high} {
		all := walk.Draw(l, 200)
		want(t, "it is drawn", all != "", true)
		for _, most := range []int{6, 7, 199, 201, 1 << 40, math.MaxInt} {
			want(t, fmt.Sprint("most ", most), walk.Draw(l, most), all)
		}
		for _, most := range []int{5, 4, 3, 1, 0, -1, -6, -7, math.MinInt} {
			want(t, fmt.Sprint("most ", most), walk.Draw(l, most), "")
		}
	}
	for _, l := range [][]api.Trade{nil, trades(5, 0), trades(5, 0, 6, -1)} {
		want(t, "a place alone, most 0", walk.Draw(l, 0), "O\n")
		want(t, "a place alone, most -1", walk.Draw(l, -1), "")
		want(t, "a place alone, most -2^63", walk.Draw(l, math.MinInt), "")
	}
	want(t, "a step, most 0", walk.Draw(trades(5, 1), 0), "")
	want(t, "a step, most 1", walk.Draw(trades(5, 1), 1), "OX\n")
	want(t, "a step upward, most 0", walk.Draw(trades(5, 0, 6, 1), 0), "")
}

// TestDrawWidest is P34.2: nothing is wider, or higher, than 200, whatever most there is.
func TestDrawWidest(t *testing.T) {
	row := "O" + strings.Repeat(".", 199) + "X\n"
	column := "X\n" + strings.Repeat(".\n", 199) + "O\n"
	for _, most := range []int{200, 201, 5000, math.MaxInt} {
		want(t, fmt.Sprint("200 wide, most ", most), walk.Draw(trades(1, 200), most), row)
		want(t, fmt.Sprint("200 high, most ", most), walk.Draw(trades(1, 0, 2, 200), most), column)
		want(t, fmt.Sprint("201 wide, most ", most), walk.Draw(trades(1, 201), most), "")
		want(t, fmt.Sprint("201 high, most ", most), walk.Draw(trades(1, 0, 2, 201), most), "")
		want(t, fmt.Sprint("201 to both sides, most ", most), walk.Draw(trades(1, 100, 2, 0, 3, 201), most), "")
		want(t, fmt.Sprint("far, most ", most), walk.Draw(trades(1, 1000, 2, 1000, 1, 1000), most), "")
	}
	want(t, "200 wide, most 199", walk.Draw(trades(1, 200), 199), "")
	want(t, "200 high, most 199", walk.Draw(trades(1, 0, 2, 200), 199), "")
}

// TestZeros: a 0 has no sign, as a text, too.
func TestZeros(t *testing.T) {
	l := trades(1, 0, 2, 0, 3, 0, 4, 0, 5, 0, 4, 0, 3, 0, 2, 0, 1, 0, 0, 1, 1, 1, 2, 1, 3, 1)
	for n := range l {
		if s := fmt.Sprint(walk.Of(l[:n]), list(l[:n])); strings.Contains(s, "-0") {
			t.Errorf("%d trades: %s", n, s)
		}
	}
}
