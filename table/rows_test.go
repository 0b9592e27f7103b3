package table_test

import (
	"fmt"
	"iter"
	"math"
	"slices"
	"testing"
	"unsafe"

	"bourse/api"
	"bourse/bloom"
	"bourse/memo"
	"bourse/table"
)

// loose: bytes as a text that stands in their memory.
func loose(b []byte) string { return unsafe.String(unsafe.SliceData(b), len(b)) }

// row: a test fails, if a row tells other entries than were wanted.
func row(t *testing.T, what string, r iter.Seq[api.Entry], wanted ...api.Entry) {
	t.Helper()
	if got := slices.Collect(r); !slices.Equal(got, wanted) {
		t.Errorf("%s: %#v, wanted %#v", what, got, wanted)
	}
}

// turned: a list the other way round.
func turned(l []api.Entry) []api.Entry {
	l = slices.Clone(l)
	slices.Reverse(l)
	return l
}

// those: the entries of which something holds.
func those(l []api.Entry, holds func(api.Entry) bool) []api.Entry {
	return slices.DeleteFunc(slices.Clone(l), func(e api.Entry) bool { return !holds(e) })
}

// rows: a test fails, if From or Down of a key tells other entries than a look at each one.
func rows(t *testing.T, u *table.Table, l []api.Entry, key string) {
	t.Helper()
	row(t, fmt.Sprintf("From(%q)", key), u.From(key), those(l, func(e api.Entry) bool { return e.Key >= key })...)
	row(t, fmt.Sprintf("Down(%q)", key), u.Down(key), turned(those(l, func(e api.Entry) bool { return e.Key <= key || key == "" }))...)
}

// newest: of a key's entries whose numbers aren't above at, the one of the greatest number, of these that of the greatest kind.
func newest(l []api.Entry, key string, at uint64) (api.Entry, bool) {
	l = those(l, func(e api.Entry) bool { return e.Key == key && e.Seq <= at })
	if len(l) == 0 {
		return api.Entry{}, false
	}
	return slices.MinFunc(l, order), true
}

// got: a test fails, if Get tells another thing than a look at each entry, or finds what May says no of.
func got(t *testing.T, u *table.Table, l []api.Entry, key string, at uint64) {
	t.Helper()
	e, ok := u.Get(key, at)
	wanted, there := newest(l, key, at)
	want(t, fmt.Sprintf("Get(%q, %d)", key, at), e, wanted)
	want(t, fmt.Sprintf("Get(%q, %d) is there", key, at), ok, there)
	if ok && !u.May(key) {
		t.Errorf("Get(%q, %d) of what can't be there", key, at)
	}
}

// ends: a test fails, if All, Len, Blocks or Bounds tells another thing than is there.
func ends(t *testing.T, u *table.Table, l []api.Entry, blocks int) {
	t.Helper()
	row(t, "All", u.All(), l...)
	want(t, "Len", u.Len(), len(l))
	want(t, "Blocks", u.Blocks(), blocks)
	least, greatest := u.Bounds()
	if len(l) == 0 {
		want(t, "Bounds of none", least+greatest, "")
		return
	}
	want(t, "the least key", least, l[0].Key)
	want(t, "the greatest key", greatest, l[len(l)-1].Key)
}

// beside: a key, and those that stand just beside it.
func beside(key string) []string {
	l := []string{key, key + "\x00", key + "\xff", key[:max(len(key)-1, 0)]}
	if key != "" {
		b := []byte(key)
		b[len(b)-1]++ // of 255 that goes round, to a key somewhere else
		up := string(b)
		b[len(b)-1] -= 2
		l = append(l, up, string(b), string(b)+"\xff")
	}
	return l
}

// TestGet: P11.2, of keys and numbers at, beside and beyond each entry, in blocks of all sizes.
func TestGet(t *testing.T) {
	var c chance = 2
	for _, l := range [][]api.Entry{plain(1), plain(25), versions("key", 30), c.list(4), c.list(50)} {
		for _, size := range []int{-1, 1, 50, 90, 300, math.MaxInt} {
			u := built(t, l, size)
			for _, e := range l {
				for _, key := range beside(e.Key) {
					for _, at := range []uint64{e.Seq, e.Seq - 1, e.Seq + 1, 0, 1, 1 << 63, math.MaxUint64} {
						got(t, u, l, key, at)
					}
				}
			}
			for _, key := range []string{"", "\x00", "\xff\xff\xff\xff\xff\xff", x(5000)} {
				got(t, u, l, key, math.MaxUint64)
			}
		}
	}
}

// TestVersions: P11.2, by hand: many entries of one key across blocks.
func TestVersions(t *testing.T) {
	l := []api.Entry{entry("a", 9, 1, "9"), entry("b", 7, 2, ""), entry("b", 7, 1, "7"), entry("b", 5, 1, "5"), entry("b", 2, 1, "2"), entry("c", 1, 1, "1")}
	for size, blocks := range map[int]int{1: 6, 30: 3, math.MaxInt: 1} {
		u := built(t, l, size)
		ends(t, u, l, blocks)
		for _, c := range []struct {
			key   string
			at    uint64
			place int // in the list; -1: there is none
		}{
			{"", math.MaxUint64, -1},
			{"a", 8, -1}, {"a", 9, 0}, {"a", 10, 0}, {"a", math.MaxUint64, 0},
			{"b", 0, -1}, {"b", 1, -1}, {"b", 2, 4}, {"b", 3, 4}, {"b", 4, 4}, {"b", 5, 3}, {"b", 6, 3}, {"b", 7, 1}, {"b", 8, 1}, {"b", 9, 1},
			{"b\x00", 9, -1}, {"bb", 9, -1},
			{"c", 0, -1}, {"c", 1, 5}, {"c", math.MaxUint64, 5},
			{"d", math.MaxUint64, -1},
		} {
			e, ok := u.Get(c.key, c.at)
			want(t, fmt.Sprintf("Get(%q, %d)", c.key, c.at), ok, c.place >= 0)
			if ok {
				want(t, fmt.Sprintf("Get(%q, %d)", c.key, c.at), e, l[c.place])
			} else {
				want(t, "beside a false", e, api.Entry{})
			}
		}
		row(t, "From b", u.From("b"), l[1:]...)
		row(t, "From a and a byte 0", u.From("a\x00"), l[1:]...)
		row(t, "From b and a byte 0", u.From("b\x00"), l[5:]...)
		row(t, "Down b", u.Down("b"), turned(l[:5])...)
		row(t, "Down a and a byte 255", u.Down("a\xff"), l[0])
		row(t, "Down below all", u.Down("A"))
		row(t, "From above all", u.From("d"))
	}
}

// TestRows: P11.2, From and Down of keys that are there, between, below all and above all.
func TestRows(t *testing.T) {
	var c chance = 4
	for _, l := range [][]api.Entry{plain(1), plain(25), versions("key", 20), c.list(3), c.list(40), {{}}, {{Seq: math.MaxUint64, Kind: 255}, {Seq: 4}, {}}} {
		for _, size := range []int{-1, 1, 50, 90, 300, math.MaxInt} {
			u := built(t, l, size)
			ends(t, u, l, len(blocks(l, size)))
			for _, key := range append(keys(l), "", "\x00", "A", "zzz", "\xff\xff\xff\xff\xff\xff", x(5000)) {
				for _, k := range beside(key) {
					rows(t, u, l, k)
				}
			}
		}
	}
}

// TestUtmostBesideAKey: P11.2, entries of the utmost numbers and kinds, of the keys that stand just beside.
func TestUtmostBesideAKey(t *testing.T) {
	var l []api.Entry
	for _, key := range []string{"", "\x00", "a", "a\x00", "a\x00\x00", "b"} {
		l = append(l, entry(key, math.MaxUint64, 255, "v"), entry(key, math.MaxUint64, 0, ""), entry(key, 0, 255, ""), entry(key, 0, 0, "v"))
	}
	for _, size := range []int{1, 40, 70, 100, math.MaxInt} {
		u := built(t, l, size)
		for _, key := range append(keys(l), "a\x00\xff", "c") {
			rows(t, u, l, key)
			got(t, u, l, key, 0)
			got(t, u, l, key, 1)
			got(t, u, l, key, math.MaxUint64)
		}
	}
}

// TestAsMemo: P11.2, as a memo that has the same entries.
func TestAsMemo(t *testing.T) {
	var c chance = 8
	m := memo.New()
	for i := range 300 {
		want(t, "Add", m.Add(entry("k"+c.text(3), uint64(c.below(40)), 1+c.below(2), c.text(20)), 1+i%5), api.OK)
	}
	l := slices.Collect(m.All())
	for _, size := range []int{1, 70, 200, 1000, math.MaxInt} {
		u := built(t, l, size)
		for range 400 {
			key, at := "k"+c.text(3), uint64(c.below(42))
			if c.below(5) == 0 {
				key = c.text(4)
			}
			e, ok := u.Get(key, at)
			wanted, there := m.Get(key, at)
			want(t, fmt.Sprintf("Get(%q, %d)", key, at), e, wanted)
			want(t, fmt.Sprintf("Get(%q, %d) is there", key, at), ok, there)
			row(t, fmt.Sprintf("From(%q)", key), u.From(key), slices.Collect(m.From(key))...)
			row(t, fmt.Sprintf("Down(%q)", key), u.Down(key), slices.Collect(m.Down(key))...)
		}
		row(t, "Down of the empty key", u.Down(""), slices.Collect(m.Down(""))...)
	}
}

// TestMay: P11.2, P11.3, just what the filter says; yes of each key that is there; nothing of one of which it says no.
func TestMay(t *testing.T) {
	l := plain(60)
	filter := bloom.Make(keys(l))
	for _, size := range []int{1, 200, math.MaxInt} {
		u := built(t, l, size)
		yes, no := 0, 0
		for _, e := range l {
			want(t, "a key that is there", u.May(e.Key), true)
		}
		for i := range 3000 {
			key := fmt.Sprint("no", i)
			may := u.May(key)
			want(t, "May", may, bloom.May(filter, key))
			e, ok := u.Get(key, math.MaxUint64)
			want(t, "Get of none", e, api.Entry{})
			want(t, "Get of none", ok, false)
			if may {
				yes++
			} else {
				no++
			}
		}
		if yes == 0 || no < 2000 {
			t.Errorf("of keys that aren't there yes %d times, no %d times", yes, no)
		}
	}
	want(t, "May of the empty key", built(t, plain(1), 1).May(""), bloom.May(bloom.Make([]string{"key000"}), ""))
}

// TestLeftOff: rows may be left anywhere, at once too, and gone through again; one within another one.
func TestLeftOff(t *testing.T) {
	l := plain(20)
	u := built(t, l, 70)
	for _, c := range []struct {
		what string
		row  iter.Seq[api.Entry]
		l    []api.Entry
	}{
		{"All", u.All(), l},
		{"From", u.From(l[5].Key), l[5:]},
		{"Down", u.Down(l[13].Key), turned(l[:14])},
		{"Down of the empty key", u.Down(""), turned(l)},
	} {
		for n := 1; n <= len(c.l); n++ {
			var got []api.Entry
			c.row(func(e api.Entry) bool {
				got = append(got, e)
				return len(got) < n
			})
			want(t, fmt.Sprint(c.what, " left off behind ", n), slices.Equal(got, c.l[:n]), true)
		}
		row(t, c.what+" again", c.row, c.l...)
		i := 0
		for e := range c.row {
			want(t, c.what+" about others", e, c.l[i])
			row(t, c.what+" within it", c.row, c.l...)
			got(t, u, l, e.Key, e.Seq)
			i++
		}
	}
}

// TestNilTable: P11.2, none of all.
func TestNilTable(t *testing.T) {
	var u *table.Table
	ends(t, u, nil, 0)
	for _, key := range []string{"", "\x00", "a", "\xff", x(5000)} {
		rows(t, u, nil, key)
		want(t, "May", u.May(key), false)
		for _, at := range []uint64{0, 1, math.MaxUint64} {
			got(t, u, nil, key, at)
		}
	}
}

// TestTextsOfTheirOwn: answers are new memory, also of keys that are the same.
func TestTextsOfTheirOwn(t *testing.T) {
	l := []api.Entry{entry("key", 3, 1, "value"), entry("key", 2, 1, "value"), entry("key more", 2, 1, "value")}
	for _, size := range []int{1, math.MaxInt} {
		u := built(t, l, size)
		var kept []string
		for range 2 {
			for _, r := range []iter.Seq[api.Entry]{u.All(), u.Down(""), u.From("key"), u.Down("l")} {
				for e := range r {
					kept = append(kept, e.Key, e.Value)
				}
			}
			e, _ := u.Get("key", 9)
			least, greatest := u.Bounds()
			kept = append(kept, e.Key, e.Value, least, greatest)
		}
		places := map[*byte]bool{}
		for _, s := range kept {
			want(t, "shared", places[unsafe.StringData(s)], false)
			places[unsafe.StringData(s)] = true
		}
	}
	least, greatest := built(t, l[:1], 1).Bounds()
	want(t, "the bounds of one key", unsafe.StringData(least) != unsafe.StringData(greatest), true)
}

// TestHandedInIsNotKept: the bytes of a table and the keys of rows may change behind them.
func TestHandedInIsNotKept(t *testing.T) {
	l := plain(20)
	s, _ := table.Build(l, 90)
	b := []byte(s)
	u := opened(t, loose(b))
	clear(b)
	ends(t, u, l, len(blocks(l, 90)))
	want(t, "May of one that is there", u.May(l[3].Key), true)
	want(t, "May of another", u.May("none"), false)
	key := []byte(l[9].Key)
	from, down := u.From(loose(key)), u.Down(loose(key))
	copy(key, "zzzzzz")
	row(t, "From", from, l[9:]...)
	row(t, "Down", down, turned(l[:10])...)
}
