package merge_test

import (
	"fmt"
	"iter"
	"math"
	"slices"
	"testing"

	"bourse/api"
	"bourse/memo"
	"bourse/merge"
)

// both: Up of rows that rise, and Down of the same ones turned round, are these.
func both(t *testing.T, what string, rows [][]api.Entry, wanted ...api.Entry) {
	t.Helper()
	var up, down []iter.Seq[api.Entry]
	for _, l := range rows {
		up = append(up, of(l...))
		down = append(down, of(turned(l)...))
	}
	row(t, what+": Up", merge.Up(up...), wanted...)
	row(t, what+": Down", merge.Down(down...), turned(wanted)...)
}

// TestRows: P15.1, by hand.
func TestRows(t *testing.T) {
	a, b, c, d := put("a", 1, "1"), put("b", 2, "2"), put("c", 3, "3"), del("d", 4)
	none := []api.Entry{}
	for _, x := range []struct {
		what   string
		rows   [][]api.Entry
		wanted []api.Entry
	}{
		{"no rows", nil, none},
		{"a row of nothing", [][]api.Entry{nil}, none},
		{"rows of nothing", [][]api.Entry{nil, nil, nil}, none},
		{"one row", [][]api.Entry{{a, b, c, d}}, []api.Entry{a, b, c, d}},
		{"one row beside nothing", [][]api.Entry{nil, {a, b}, nil}, []api.Entry{a, b}},
		{"one behind the other", [][]api.Entry{{a, b}, {c, d}}, []api.Entry{a, b, c, d}},
		{"one ahead of the other", [][]api.Entry{{c, d}, {a, b}}, []api.Entry{a, b, c, d}},
		{"in turn", [][]api.Entry{{a, c}, {b, d}}, []api.Entry{a, b, c, d}},
		{"one within the other", [][]api.Entry{{b, c}, {a, d}}, []api.Entry{a, b, c, d}},
		{"each by itself", [][]api.Entry{{d}, {b}, {a}, {c}}, []api.Entry{a, b, c, d}},
	} {
		both(t, x.what, x.rows, x.wanted...)
	}
}

// TestOrderOfRows: P15.1, layer 8's order: keys by their bytes, the newest first, kinds falling; whatever they are.
func TestOrderOfRows(t *testing.T) {
	l := []api.Entry{
		put("", math.MaxUint64, "no key"),
		{Key: "\x00", Seq: 1, Kind: math.MaxInt},
		{Key: "\x00", Seq: 1, Kind: 255},
		{Key: "\x00", Seq: 1, Kind: 2},
		{Key: "\x00", Seq: 1, Kind: 1},
		{Key: "\x00", Seq: 1, Kind: 0},
		{Key: "\x00", Seq: 1, Kind: math.MinInt},
		put("A", 0, ""),
		put("a", math.MaxUint64, ""),
		put("a", 1<<63, ""),
		put("a", top, ""),
		put("a", 256, ""),
		put("a", 255, ""),
		del("a", 9),
		put("a", 9, ""),
		put("a", 0, ""),
		put("a\x00", 7, ""),
		put("aa", 8, ""),
		put("é", 1, ""),
		put("\xff", 1, ""),
		put("\xff\xff", 2, ""),
	}
	for places := 1; places <= 4; places++ {
		rows := make([][]api.Entry, places)
		for i, e := range l {
			rows[i%places] = append(rows[i%places], e)
		}
		both(t, fmt.Sprint("in turn over ", places), rows, l...)
		slices.Reverse(rows)
		both(t, fmt.Sprint("in turn over ", places, ", turned"), rows, l...)
	}
	for i := range len(l) - 1 {
		both(t, "neighbours", [][]api.Entry{{l[i+1]}, {l[i]}}, l[i], l[i+1])
	}
}

// TestFirstToldCounts: P15.1, of what compares as 0 that of the row that was told first; the values don't count.
func TestFirstToldCounts(t *testing.T) {
	of := func(s string) []api.Entry { return []api.Entry{put("a", 1, s)} }
	both(t, "two", [][]api.Entry{of("x"), of("y")}, put("a", 1, "x"))
	both(t, "two, turned", [][]api.Entry{of("y"), of("x")}, put("a", 1, "y"))
	both(t, "three", [][]api.Entry{of("z"), of("x"), of("y")}, put("a", 1, "z"))
	both(t, "nothing ahead", [][]api.Entry{nil, of("y"), of("x")}, put("a", 1, "y"))
	both(t, "others ahead", [][]api.Entry{{put("0", 5, "w"), put("b", 1, "w")}, of("y"), of("x")}, put("0", 5, "w"), put("a", 1, "y"), put("b", 1, "w"))
	same := []api.Entry{put("a", 2, "1"), del("a", 1), put("b", 1, "2")}
	both(t, "all thrice", [][]api.Entry{same, same, same}, same...)
	// The same number isn't the same entry, nor is the same kind.
	both(t, "another kind", [][]api.Entry{of("x"), {del("a", 1)}}, del("a", 1), put("a", 1, "x"))
	both(t, "another number", [][]api.Entry{of("x"), {put("a", 2, "y")}}, put("a", 2, "y"), put("a", 1, "x"))
	both(t, "another key", [][]api.Entry{of("x"), {put("", 1, "y")}}, put("", 1, "y"), put("a", 1, "x"))
	row(t, "one row twice", merge.Up(slices.Values(same), slices.Values(same)), same...)
}

// TestSameInOneRow: P15.1, what compares as 0 within one row isn't in several: all of it counts, unless a row that was told ahead has it.
func TestSameInOneRow(t *testing.T) {
	x, y, z := put("a", 1, "x"), put("a", 1, "y"), put("a", 1, "z")
	b := put("b", 1, "")
	row(t, "one row", merge.Up(of(x, y, z, b)), x, y, z, b)
	row(t, "the row told first", merge.Up(of(x, y, b), of(z, b)), x, y, b)
	row(t, "the row told behind", merge.Up(of(x, b), of(y, z, b)), x, b)
	row(t, "falling, the row told first", merge.Down(of(b, x, y), of(b, z)), b, x, y)
	row(t, "falling, the row told behind", merge.Down(of(b, x), of(b, y, z)), b, x)
}

// TestSomeOfAll: P15.1, all ways in which three rows have some of four entries.
func TestSomeOfAll(t *testing.T) {
	universe := []api.Entry{put("a", 2, ""), del("a", 1), put("a", 1, ""), put("b", 9, "")}
	for ways := range 1 << (3 * len(universe)) {
		rows := make([][]api.Entry, 3)
		var wanted []api.Entry
		for i, e := range universe {
			for r := 2; r >= 0; r-- {
				if ways>>(3*i+r)&1 == 0 {
					continue
				}
				e.Value = fmt.Sprint("of ", r)
				rows[r] = append(rows[r], e)
				wanted = append(slices.DeleteFunc(wanted, func(x api.Entry) bool { return order(x, e) == 0 }), e)
			}
		}
		both(t, fmt.Sprintf("the way %o", ways), rows, wanted...)
		if t.Failed() {
			return
		}
	}
}

// TestRowsByDice: P15.1, rows as they come, against sorting.
func TestRowsByDice(t *testing.T) {
	d := dice(1)
	for range 500 {
		rows := make([][]api.Entry, d.below(7))
		var wanted []api.Entry
		for i := range rows {
			rows[i] = d.entries(30, fmt.Sprint(i, " "))
			wanted = append(wanted, rows[i]...)
		}
		slices.SortStableFunc(wanted, order)
		both(t, "by dice", rows, slices.CompactFunc(wanted, func(a, b api.Entry) bool { return order(a, b) == 0 })...)
		if t.Failed() {
			return
		}
	}
}

// TestManyRows: P15.1, there are any number of them.
func TestManyRows(t *testing.T) {
	const many = 1000
	rows := make([][]api.Entry, many)
	var all []api.Entry
	for i := range many {
		e := put(fmt.Sprintf("%04d", i), 1, "")
		rows[i*7%many] = append(rows[i*7%many], e)
		all = append(all, e)
	}
	both(t, "many rows", rows, all...)
}

// TestLongRows: P15.1, rows of many entries.
func TestLongRows(t *testing.T) {
	rows := make([][]api.Entry, 3)
	var all []api.Entry
	for i := range 30000 {
		e := put(fmt.Sprintf("%06d", i/2), uint64(1-i%2), "")
		rows[i*i%7%3] = append(rows[i*i%7%3], e)
		all = append(all, e)
	}
	both(t, "long rows", rows, all...)
}

// TestRowsOfMemos: P15.1, over what layer 8 has, as it is when it is gone through.
func TestRowsOfMemos(t *testing.T) {
	a, b := memo.New(), memo.New()
	up, down := merge.Up(a.All(), b.All()), merge.Down(a.Down("b"), b.Down("b"))
	row(t, "nothing yet", up)
	add := func(m *memo.Memo, e api.Entry) { want(t, "Add", m.Add(e, 1), api.OK) }
	add(a, put("a", 1, "1"))
	add(b, put("a", 2, "2"))
	row(t, "two", up, put("a", 2, "2"), put("a", 1, "1"))
	row(t, "two, falling", down, put("a", 1, "1"), put("a", 2, "2"))
	add(a, del("b", 3))
	add(b, put("c", 4, "4"))
	row(t, "four", up, put("a", 2, "2"), put("a", 1, "1"), del("b", 3), put("c", 4, "4"))
	row(t, "up to b, falling", down, del("b", 3), put("a", 1, "1"), put("a", 2, "2"))
	row(t, "rows of rows", merge.Up(merge.Up(b.All()), merge.Up(merge.Up(), a.From("b"))), put("a", 2, "2"), del("b", 3), put("c", 4, "4"))
}

// TestListOfRows: the list that is handed in is neither changed nor kept.
func TestListOfRows(t *testing.T) {
	a, b, c := put("a", 1, ""), put("b", 1, ""), put("c", 1, "")
	l := []iter.Seq[api.Entry]{of(b), of(a), of(c)}
	up, down := merge.Up(l[:2]...), merge.Down(l[:2]...)
	row(t, "up", up, a, b)
	row(t, "down", down, b, a)
	row(t, "its first", l[0], b)
	row(t, "its spare room", l[2], c)
	clear(l)
	row(t, "up, behind a change", up, a, b)
	row(t, "down, behind a change", down, b, a)
}
