package block_test

import (
	"fmt"
	"iter"
	"math"
	"slices"
	"testing"
	"unsafe"

	"bourse/api"
	"bourse/block"
)

// loose: bytes as a text that stands in their memory.
func loose(b []byte) string { return unsafe.String(unsafe.SliceData(b), len(b)) }

// row: a test fails, if a row tells other entries than were wanted.
func row(t *testing.T, what string, r iter.Seq[api.Entry], wanted ...api.Entry) {
	t.Helper()
	if got := slices.Collect(r); !slices.Equal(got, wanted) {
		t.Errorf("%s: %#v, wanted %#v", what, got, wanted)
	}
}

// turned: a list the other way round.
func turned(l []api.Entry) []api.Entry {
	l = slices.Clone(l)
	slices.Reverse(l)
	return l
}

// parts: the entries that stand ahead of one, and the others, by looking at each.
func parts(l []api.Entry, e api.Entry) (ahead, others []api.Entry) {
	for _, x := range l {
		if order(x, e) < 0 {
			ahead = append(ahead, x)
		} else {
			others = append(others, x)
		}
	}
	return ahead, others
}

// sought: a test fails, if Seek or Before of an entry tells others than those.
func sought(t *testing.T, b *block.Block, l []api.Entry, e api.Entry) {
	t.Helper()
	ahead, others := parts(l, e)
	row(t, fmt.Sprintf("Seek(%#v)", e), b.Seek(e), others...)
	row(t, fmt.Sprintf("Before(%#v)", e), b.Before(e), turned(ahead)...)
}

// ends: a test fails, if All, Down, Len or Last tells another thing than is there.
func ends(t *testing.T, b *block.Block, l []api.Entry) {
	t.Helper()
	row(t, "All", b.All(), l...)
	row(t, "Down", b.Down(), turned(l)...)
	want(t, "Len", b.Len(), len(l))
	e, ok := b.Last()
	if len(l) == 0 {
		want(t, "Last of none", e, api.Entry{})
		want(t, "Last of none", ok, false)
		return
	}
	want(t, "Last", e, l[len(l)-1])
	want(t, "Last", ok, true)
}

// edges: below all and above all of any block.
func edges() []api.Entry {
	return []api.Entry{
		{}, {Seq: math.MaxUint64}, {Seq: math.MaxUint64, Kind: math.MaxInt}, {Kind: math.MinInt}, {Kind: -1},
		entry("\xff\xff\xff\xff\xff\xff", 0, math.MinInt, ""), entry("\xff\xff\xff\xff\xff\xff", math.MaxUint64, math.MaxInt, "v"), entry(x(5000), 1, 1, ""),
	}
}

// around: an entry, those just ahead of it and behind it, and the same with another value.
func around(e api.Entry) []api.Entry {
	l := []api.Entry{e, entry(e.Key, e.Seq, e.Kind, e.Value+"more"), entry(e.Key, e.Seq, e.Kind, "")}
	for _, kind := range []int{math.MinInt, e.Kind - 1, e.Kind + 1, math.MaxInt} {
		l = append(l, entry(e.Key, e.Seq, kind, "v"))
	}
	return append(l,
		entry(e.Key, e.Seq-1, e.Kind, ""), entry(e.Key, e.Seq+1, e.Kind, ""), // at the ends these go round, and are somewhere else
		entry(e.Key, 0, 0, ""), entry(e.Key, math.MaxUint64, 255, ""), entry(e.Key+"\x00", e.Seq, e.Kind, ""),
		entry(e.Key[:max(len(e.Key)-1, 0)], e.Seq, e.Kind, ""))
}

// TestRows: P10.2, of none, one, few and many entries, at each entry, beside it, and at the ends.
func TestRows(t *testing.T) {
	var c chance = 2
	for _, n := range []int{0, 1, 2, 3, 7, 8, 9, 10, 15, 16, 17, 18, 24, 25, 60, 120} {
		for _, l := range [][]api.Entry{c.list(n), plain(n)} {
			b := made(t, l)
			ends(t, b, l)
			for _, e := range edges() {
				sought(t, b, l, e)
			}
			for _, e := range l {
				for _, at := range around(e) {
					sought(t, b, l, at)
				}
			}
			for range 50 {
				sought(t, b, l, c.entry())
			}
		}
	}
}

// TestVersions: P10.2, entries of one key: by their numbers and kinds, falling.
func TestVersions(t *testing.T) {
	l := []api.Entry{entry("a", 9, 1, "9"), entry("b", 7, 2, ""), entry("b", 7, 1, "7"), entry("b", 5, 1, "5"), entry("c", 1, 1, "1")}
	b := made(t, l)
	for _, c := range []struct {
		e api.Entry
		n int // how many stand ahead of it
	}{
		{entry("", 0, 0, ""), 0},
		{entry("a", 10, 1, ""), 0},
		{entry("a", 9, 2, ""), 0},
		{entry("a", 9, 1, ""), 0},
		{entry("a", 9, 0, ""), 1},
		{entry("a", 0, 0, ""), 1},
		{entry("b", 8, 255, ""), 1},
		{entry("b", 7, 255, ""), 1},
		{entry("b", 7, 2, ""), 1},
		{entry("b", 7, 1, ""), 2},
		{entry("b", 7, 0, ""), 3},
		{entry("b", 6, 255, ""), 3},
		{entry("b", 5, 255, ""), 3},
		{entry("b", 5, 1, ""), 3},
		{entry("b", 4, 255, ""), 4},
		{entry("b\x00", 9, 255, ""), 4},
		{entry("c", 1, 1, ""), 4},
		{entry("c", 0, 1, ""), 5},
		{entry("d", 9, 1, ""), 5},
	} {
		row(t, fmt.Sprintf("Seek(%#v)", c.e), b.Seek(c.e), l[c.n:]...)
		row(t, fmt.Sprintf("Before(%#v)", c.e), b.Before(c.e), turned(l[:c.n])...)
	}
	ends(t, b, l)
}

// TestZeroEntry: P10.2, it is one as others are.
func TestZeroEntry(t *testing.T) {
	for _, l := range [][]api.Entry{{{}}, {{Seq: 1}, {}}, {{Kind: 1}, {}}} {
		b := made(t, l)
		ends(t, b, l)
		for _, e := range edges() {
			sought(t, b, l, e)
		}
	}
}

// TestLeftOff: rows may be left anywhere, at once too, and gone through again; one within another one.
func TestLeftOff(t *testing.T) {
	l := plain(20)
	b := made(t, l)
	for _, c := range []struct {
		what string
		row  iter.Seq[api.Entry]
		l    []api.Entry
	}{
		{"All", b.All(), l},
		{"Down", b.Down(), turned(l)},
		{"Seek", b.Seek(l[5]), l[5:]},
		{"Before", b.Before(l[13]), turned(l[:13])},
	} {
		for n := 1; n <= len(c.l); n++ {
			var got []api.Entry
			c.row(func(e api.Entry) bool {
				got = append(got, e)
				return len(got) < n
			})
			want(t, fmt.Sprint(c.what, " left off behind ", n), slices.Equal(got, c.l[:n]), true)
		}
		row(t, c.what+" again", c.row, c.l...)
		i := 0
		for e := range c.row {
			want(t, c.what+" about others", e, c.l[i])
			row(t, c.what+" within it", c.row, c.l...)
			ends(t, b, l)
			i++
		}
	}
}

// TestNilBlock: P10.2, none of all.
func TestNilBlock(t *testing.T) {
	var b *block.Block
	ends(t, b, nil)
	for _, e := range append(edges(), plain(2)...) {
		sought(t, b, nil, e)
	}
}

// TestTextsOfTheirOwn: answers are new memory, also of keys that are the same.
func TestTextsOfTheirOwn(t *testing.T) {
	l := []api.Entry{entry("key", 3, 1, "value"), entry("key", 2, 1, "value"), entry("key more", 2, 1, "value")}
	b := made(t, l)
	var kept []string
	for range 2 {
		e, _ := b.Last()
		kept = append(kept, e.Key, e.Value)
		for _, r := range []iter.Seq[api.Entry]{b.All(), b.Down(), b.Seek(l[0]), b.Before(entry("l", 0, 0, ""))} {
			for e := range r {
				kept = append(kept, e.Key, e.Value)
			}
		}
	}
	places := map[*byte]bool{}
	for _, s := range kept {
		want(t, "shared", places[unsafe.StringData(s)], false)
		places[unsafe.StringData(s)] = true
	}
}

// TestSoughtIsNotKept: what is handed to Seek and Before may change behind them.
func TestSoughtIsNotKept(t *testing.T) {
	l := plain(20)
	b := made(t, l)
	key := []byte(l[9].Key)
	e := entry(loose(key), 1, 1, "")
	seek, before := b.Seek(e), b.Before(e)
	copy(key, "zzz")
	row(t, "Seek", seek, l[9:]...)
	row(t, "Before", before, turned(l[:9])...)
}
