package schema_test

import (
	"cmp"
	"fmt"
	"math"
	"slices"
	"strings"
	"testing"

	"bourse/api"
	"bourse/key"
	"bourse/schema"
)

// counts: the ends, and some in between.
func counts() []uint64 {
	return []uint64{0, 1, 2, 255, 256, 1 << 32, 1<<63 - 1, 1 << 63, math.MaxUint64 - 1, math.MaxUint64}
}

// prices: likewise.
func prices() []int64 {
	return []int64{math.MinInt64, -256, -1, 0, 1, 2, 255, 256, 1 << 40, math.MaxInt64}
}

// things: of all sorts, each once.
func things() []schema.Thing {
	var l []schema.Thing
	for _, n := range counts() {
		l = append(l, schema.Thing{Sort: "o", ID: n})
		for _, kind := range []int{math.MinInt32, -1, 0, 1, 2, 3, math.MaxInt32} {
			l = append(l, schema.Thing{Sort: "a", Account: n, Kind: kind})
		}
		for _, id := range counts() {
			l = append(l, schema.Thing{Sort: "e", At: n, ID: id})
			for _, side := range []int{-1, 0, api.Buy, api.Sell, 3} {
				for _, price := range prices() {
					l = append(l, schema.Thing{Sort: "b", Kind: side, Price: price, Rank: n, ID: id})
				}
			}
		}
	}
	for _, name := range []string{"", "\x00", "\x00\x00", "\x00\xff", "a", "a\x00", "a\x00b", "aa", "b", "clock", "id", "net1", "net2", "rank", "\xff", "\xff\xff"} {
		l = append(l, schema.Thing{Sort: "n", Name: name})
	}
	return l
}

// ahead: below 0, where a thing's key stands ahead of another one's.
func ahead(a, b schema.Thing) int {
	dearer := 1
	if a.Kind == api.Buy {
		dearer = -1
	}
	return cmp.Or(cmp.Compare(a.Sort, b.Sort), cmp.Compare(a.Account, b.Account), cmp.Compare(a.At, b.At), cmp.Compare(a.Kind, b.Kind),
		dearer*cmp.Compare(a.Price, b.Price), cmp.Compare(a.Rank, b.Rank), cmp.Compare(a.ID, b.ID), cmp.Compare(a.Name, b.Name))
}

// TestThings: P21.3, what is made is parsed as it was; each key stands where its thing does, places as the better price, then the lower rank, then the lower number.
func TestThings(t *testing.T) {
	l := things()
	slices.SortFunc(l, ahead)
	before := ""
	for i, x := range l {
		k := of(t, x)
		got, e := schema.Parse(k)
		want(t, fmt.Sprintf("Parse(%x): error", k), e, api.OK)
		want(t, fmt.Sprintf("Parse(%x)", k), got, x)
		if k <= before {
			t.Errorf("%+v doesn't stand behind %+v", x, l[i-1])
		}
		before = k
	}
	want(t, "all sorts", len(l), 10*(1+7+10+10*5*10)+16)
}

// TestPlaces: P21.3, by hand.
func TestPlaces(t *testing.T) {
	before := ""
	for _, o := range []api.Order{
		{Side: api.Buy, Price: 1 << 40, Rank: 9, ID: 9},
		{Side: api.Buy, Price: 7, Rank: 8, ID: 8},
		{Side: api.Buy, Price: 6, Rank: 1, ID: 5},
		{Side: api.Buy, Price: 6, Rank: 2, ID: 3},
		{Side: api.Buy, Price: 6, Rank: 2, ID: 4},
		{Side: api.Buy, Price: 5, Rank: 0, ID: 0},
		{Side: api.Buy, Price: 1, Rank: 0, ID: 0},
		{Side: api.Buy, Price: -1, Rank: 0, ID: 0},
		{Side: api.Sell, Price: -1, Rank: 9, ID: 9},
		{Side: api.Sell, Price: 1, Rank: 9, ID: 9},
		{Side: api.Sell, Price: 5, Rank: 8, ID: 8},
		{Side: api.Sell, Price: 6, Rank: 1, ID: 5},
		{Side: api.Sell, Price: 6, Rank: 2, ID: 3},
		{Side: api.Sell, Price: 6, Rank: 2, ID: 4},
		{Side: api.Sell, Price: 7, Rank: 0, ID: 0},
		{Side: api.Sell, Price: 1 << 40, Rank: 0, ID: 0},
	} {
		k := schema.Place(o)
		want(t, fmt.Sprintf("%+v stands behind", o), k > before, true)
		before = k
	}
}

// TestUnder: P21.1, the bounds hold all keys that begin so, and no others.
func TestUnder(t *testing.T) {
	keys := []string{"", "a", "t", "ta", "ta\x00", "tb\x00\x00", "tz\x00\x00", "u", laid(t, key.Count(1)), laid(t, key.Text("b"), key.Text("b")), laid(t, key.Text("a\x00"), key.Count(1)), laid(t, key.Text("aa"), key.Count(1)), laid(t, key.Text(""), key.Up(1))}
	for _, x := range things() {
		keys = append(keys, of(t, x))
	}
	sorts := []string{"a", "b", "e", "n", "o", "z", "", "aa", "a\x00", "\xff"}
	behind := [][]key.Part{
		nil, {}, {key.Count(0)}, {key.Count(1)}, {key.Count(math.MaxUint64)}, {key.Up(1)}, {key.Up(2)}, {key.Up(math.MaxInt32)}, {key.Down(1)}, {key.Text("")}, {key.Text("a")}, {key.Text("b")}, {key.Text("\xff")},
		{key.Count(1), key.Up(2)}, {key.Count(256), key.Count(255)}, {key.Up(1), key.Down(256)}, {key.Up(2), key.Up(256)}, {key.Up(1), key.Up(256)}, {key.Up(2), key.Up(math.MaxInt64)}, {key.Up(1), key.Down(math.MinInt64), key.Count(math.MaxUint64)},
		{key.Up(2), key.Up(1), key.Count(2), key.Count(255)}, {key.Up(2), key.Up(1), key.Count(2), key.Count(255), key.Up(0)},
	}
	for _, sort := range sorts {
		for _, l := range behind {
			under(t, keys, sort, l)
		}
	}
}

// under: of all keys Under's bounds hold those that begin so, alone.
func under(t *testing.T, keys []string, sort string, l []key.Part) {
	t.Helper()
	// Spare room, which must stay as it is.
	room := append(slices.Clone(l), key.Text("spare"), key.Text("spare"))
	kept := slices.Clone(room)
	from, to := schema.Under(sort, room[:len(l)]...)
	if !slices.Equal(room, kept) {
		t.Errorf("Under(%q, %v) changed what was handed in: %v", sort, l, room)
	}
	first := laid(t, append([]key.Part{key.Text(sort)}, l...)...)
	same(t, fmt.Sprintf("Under(%q, %v): from", sort, l), from, first)
	for _, k := range append(slices.Clone(keys), first, first+"\x00", first+"\xff\xff", first+strings.Repeat("\xff", 300)) {
		within := k >= from && k < to
		if within != strings.HasPrefix(k, first) {
			t.Errorf("Under(%q, %v): %x, %x: is %x within: %v", sort, l, from, to, k, within)
		}
	}
}

// TestUnderNone: P21.1, two empty texts, where no key begins so.
func TestUnderNone(t *testing.T) {
	long := func(length int) key.Part { return key.Text(strings.Repeat("x", length)) }
	for _, c := range []struct {
		what string
		sort string
		l    []key.Part
		ok   bool
	}{
		{"200 bytes", "n", []key.Part{long(193)}, true},
		{"201 bytes", "n", []key.Part{long(194)}, false},
		{"a sort of 200 bytes", strings.Repeat("s", 197), nil, true},
		{"a sort of 201 bytes", strings.Repeat("s", 198), nil, false},
		{"a long sort", strings.Repeat("s", 100000), []key.Part{key.Count(1)}, false},
		{"counts", "a", slices.Repeat([]key.Part{key.Count(1)}, 21), true},
		{"many counts", "a", slices.Repeat([]key.Part{key.Count(1)}, 22), false},
		{"a part of no sort", "a", []key.Part{{}}, false},
		{"a part of another sort", "a", []key.Part{{Sort: 'x'}}, false},
		{"a part of no sort, last", "a", []key.Part{key.Count(1), key.Up(2), {Sort: 'T', S: "x"}}, false},
		{"a part of no sort, behind too much", "a", []key.Part{long(300), {}}, false},
	} {
		from, to := schema.Under(c.sort, c.l...)
		want(t, c.what, from != "" && to > from, c.ok)
		if !c.ok {
			same(t, c.what+": from", from, "")
			same(t, c.what+": to", to, "")
		}
	}
}
