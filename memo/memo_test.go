package memo_test

import (
	"fmt"
	"iter"
	"math"
	"slices"
	"strings"
	"testing"
	"unsafe"

	"bourse/api"
	"bourse/memo"
)

func x(n int) string { return strings.Repeat("x", n) }

// row: a test fails, if a row tells other entries than were wanted.
func row(t *testing.T, what string, r iter.Seq[api.Entry], wanted ...api.Entry) {
	t.Helper()
	if got := slices.Collect(r); !slices.Equal(got, wanted) {
		t.Errorf("%s: %#v, wanted %#v", what, got, wanted)
	}
}

// filled: a memo of such entries.
func filled(t *testing.T, l ...api.Entry) *memo.Memo {
	t.Helper()
	m := memo.New()
	for i, e := range l {
		want(t, fmt.Sprintf("Add(%#v)", e), m.Add(e, i%4+1), api.OK)
	}
	return m
}

// seen: a test fails, if Get doesn't tell the entry.
func seen(t *testing.T, m *memo.Memo, key string, at uint64, wanted api.Entry) {
	t.Helper()
	if e, ok := m.Get(key, at); e != wanted || !ok {
		t.Errorf("Get(%q, %d): %#v, %v, wanted %#v", key, at, e, ok, wanted)
	}
}

// unseen: a test fails, if Get tells an entry.
func unseen(t *testing.T, m *memo.Memo, key string, at uint64) {
	t.Helper()
	if e, ok := m.Get(key, at); e != (api.Entry{}) || ok {
		t.Errorf("Get(%q, %d): %#v, %v, wanted none", key, at, e, ok)
	}
}

// TestNone: P8.2, of an empty memo.
func TestNone(t *testing.T) {
	m := memo.New()
	want(t, "Len", m.Len(), 0)
	want(t, "Bytes", m.Bytes(), 0)
	row(t, "All", m.All())
	for _, k := range []string{"", "a", "\xff", x(86), x(1000)} {
		unseen(t, m, k, 0)
		unseen(t, m, k, math.MaxUint64)
		row(t, "From", m.From(k))
		row(t, "Down", m.Down(k))
	}
	want(t, "another one", memo.New() != m, true)
}

// TestExample: the chapter's.
func TestExample(t *testing.T) {
	first, second := put("a", 1, "one"), put("a", 2, "two")
	m := filled(t, first, second)
	seen(t, m, "a", 1, first)
	seen(t, m, "a", 9, second)
}

// TestVersions: P8.2, Get below all, between and above all numbers of a key; all versions in their order.
func TestVersions(t *testing.T) {
	a5, a9, atop := put("a", 5, "5"), del("a", 9), put("a", top, "top")
	b7 := put("b", 7, "7")
	m := filled(t, a9, b7, atop, a5)
	for _, at := range []uint64{0, 1, 4} {
		unseen(t, m, "a", at)
	}
	for _, at := range []uint64{5, 6, 8} {
		seen(t, m, "a", at, a5)
	}
	for _, at := range []uint64{9, 10, 1 << 40, top - 1} {
		seen(t, m, "a", at, a9)
	}
	for _, at := range []uint64{top, top + 1, 1<<63 - 1, 1 << 63, 1<<63 + 5, math.MaxUint64} {
		seen(t, m, "a", at, atop)
		seen(t, m, "b", at, b7)
		unseen(t, m, "c", at)
		unseen(t, m, "", at)
	}
	unseen(t, m, "b", 6)
	row(t, "All", m.All(), atop, a9, a5, b7)
	row(t, "Down", m.Down(""), b7, a5, a9, atop)
	want(t, "Len", m.Len(), 4)
	want(t, "Bytes", m.Bytes(), 4*(1+8)+1+0+3+1)
}

// TestNumberNought: P8.2, it is one as others are.
func TestNumberNought(t *testing.T) {
	e := put("a", 0, "")
	m := filled(t, e)
	seen(t, m, "a", 0, e)
	seen(t, m, "a", top, e)
	row(t, "All", m.All(), e)
	want(t, "Bytes", m.Bytes(), 9)
}

// TestBothKinds: P8.2, entries of one key and number: the Delete is ahead.
func TestBothKinds(t *testing.T) {
	p, d, older := put("a", 5, "value"), del("a", 5), put("a", 4, "old")
	for _, l := range [][]api.Entry{{p, d, older}, {d, older, p}, {older, p, d}} {
		m := filled(t, l...)
		row(t, "All", m.All(), d, p, older)
		row(t, "From", m.From("a"), d, p, older)
		row(t, "Down", m.Down("a"), older, p, d)
		seen(t, m, "a", 5, d)
		seen(t, m, "a", 4, older)
		want(t, "Len", m.Len(), 3)
		want(t, "Bytes", m.Bytes(), 3*9+8)
	}
}

// TestReplaced: P8.2, one of its key, number and kind is; its value alone is new.
func TestReplaced(t *testing.T) {
	others := []api.Entry{put("a", 4, "4"), put("a", 6, "6"), del("a", 5), put("aa", 5, "5")}
	m := filled(t, others...)
	for i, v := range []string{"first", "", "a longer one", "x"} {
		e := put("a", 5, v)
		want(t, "Add", m.Add(e, 12-i), api.OK)
		seen(t, m, "a", 4, others[0])
		row(t, "All", m.All(), others[1], others[2], e, others[0], others[3])
		want(t, "Len", m.Len(), 5)
		want(t, "Bytes", m.Bytes(), 4*9+10+3+len(v))
	}
	d := api.Entry{Key: "a", Seq: 5, Kind: api.Delete, Value: "kept as it is"}
	want(t, "Add of a Delete's value", m.Add(d, 1), api.OK)
	seen(t, m, "a", 5, d)
}

// TestBeginnings: P8.2, keys that begin one another.
func TestBeginnings(t *testing.T) {
	a, az, aa, b := put("a", 5, "1"), put("a\x00", 3, "2"), put("aa", 4, "3"), put("b", 1, "4")
	m := filled(t, aa, b, az, a)
	unseen(t, m, "a", 4)
	unseen(t, m, "a\x00", 2)
	seen(t, m, "a\x00", 4, az)
	unseen(t, m, "a\x00\x00", 9)
	unseen(t, m, "aa", 3)
	seen(t, m, "aa", 4, aa)
	unseen(t, m, "", 9)
	unseen(t, m, "\x00", 9)
	row(t, "All", m.All(), a, az, aa, b)
	for k, n := range map[string]int{"": 0, "\x00": 0, "A": 0, "a": 0, "a\x00": 1, "a\x00\x00": 2, "a\x01": 2, "aa": 2, "aa\x00": 3, "ab": 3, "b": 3, "b\x00": 4, "c": 4, "\xff": 4} {
		l := []api.Entry{a, az, aa, b}
		row(t, fmt.Sprintf("From(%q)", k), m.From(k), l[n:]...)
	}
	for k, n := range map[string]int{"": 0, "\x00": 4, "A": 4, "a": 3, "a\x00": 2, "a\x00\x00": 2, "a\x01": 2, "aa": 1, "aa\x00": 1, "ab": 1, "b": 0, "b\x00": 0, "c": 0, "\xff": 0} {
		l := []api.Entry{b, aa, az, a}
		row(t, fmt.Sprintf("Down(%q)", k), m.Down(k), l[n:]...)
	}
}

// TestAddErrors: P8.2, the edges, and which error comes first; nothing is added then.
func TestAddErrors(t *testing.T) {
	for _, c := range []struct {
		what string
		e    api.Entry
		want api.Errno
	}{
		{"the zero one", api.Entry{}, api.ErrKey},
		{"no key", put("", 1, "v"), api.ErrKey},
		{"no key of a Delete", del("", 1), api.ErrKey},
		{"a key of one byte", put("\x00", 1, "v"), api.OK},
		{"a key of 85 bytes", put(x(85), 1, "v"), api.OK},
		{"a key of 85 bytes 0", put(strings.Repeat("\x00", 85), 1, "v"), api.OK},
		{"a key of 85 bytes 255", del(strings.Repeat("\xff", 85), 1), api.OK},
		{"a key of 86 bytes", put(x(86), 1, "v"), api.ErrKey},
		{"a Delete's key of 86 bytes", del(x(86), 1), api.ErrKey},
		{"a key of 86 bytes 0", put(strings.Repeat("\x00", 86), 1, "v"), api.ErrKey},
		{"a long key", put(x(100000), 1, "v"), api.ErrKey},
		{"the kind 0", api.Entry{Key: "a"}, api.ErrKind},
		{"the kind 1", api.Entry{Key: "a", Kind: 1}, api.OK},
		{"the kind 2", api.Entry{Key: "a", Kind: 2}, api.OK},
		{"the kind 3", api.Entry{Key: "a", Kind: 3}, api.ErrKind},
		{"the kind -1", api.Entry{Key: "a", Kind: -1}, api.ErrKind},
		{"the kind 255", memo.Least("a", 1), api.ErrKind},
		{"a kind that is 1 in its lowest byte", api.Entry{Key: "a", Kind: 257}, api.ErrKind},
		{"a kind that is 2 in its lowest half", api.Entry{Key: "a", Kind: 1<<32 + 2}, api.ErrKind},
		{"the least kind", api.Entry{Key: "a", Kind: math.MinInt}, api.ErrKind},
		{"the greatest kind", api.Entry{Key: "a", Kind: math.MaxInt}, api.ErrKind},
		{"the number 0", put("a", 0, "v"), api.OK},
		{"the greatest number", put("a", top, "v"), api.OK},
		{"above it", put("a", top+1, "v"), api.ErrRange},
		{"2^63", del("a", 1<<63), api.ErrRange},
		{"the utmost", put("a", math.MaxUint64, "v"), api.ErrRange},
		{"no key, no kind, no number", api.Entry{Seq: math.MaxUint64}, api.ErrKey},
		{"a long key, no kind, no number", api.Entry{Key: x(86), Seq: top + 1, Kind: 9}, api.ErrKey},
		{"no key, no number", put("", top+1, "v"), api.ErrKey},
		{"no kind, no number", api.Entry{Key: "a", Seq: top + 1}, api.ErrKind},
		{"a value of many bytes", put("a", 1, x(100000)), api.OK},
		{"a Delete's value", api.Entry{Key: "a", Seq: 1, Kind: api.Delete, Value: "v"}, api.OK},
	} {
		for _, height := range []int{math.MinInt, 0, 1, 12, 13, math.MaxInt} {
			m := memo.New()
			want(t, c.what, m.Add(c.e, height), c.want)
			if c.want != api.OK {
				want(t, c.what+": Len", m.Len(), 0)
				want(t, c.what+": Bytes", m.Bytes(), 0)
				row(t, c.what+": All", m.All())
				continue
			}
			want(t, c.what+": Len", m.Len(), 1)
			want(t, c.what+": Bytes", m.Bytes(), len(c.e.Key)+len(c.e.Value)+8)
			row(t, c.what+": All", m.All(), c.e)
			row(t, c.what+": Down", m.Down(c.e.Key), c.e)
			seen(t, m, c.e.Key, c.e.Seq, c.e)
		}
	}
}

// TestLongKeys: P8.2, keys that no entry can have have their places, too.
func TestLongKeys(t *testing.T) {
	for _, c := range []struct{ many, mid, high string }{{"\x00", "\x00", "\x01"}, {"x", "x", "y"}, {"\xff", "\xfe", "\xff"}} {
		begin := strings.Repeat(c.many, 84)
		low, mid, high := put(begin, 1, "low"), del(begin+c.mid, 2), put(begin+c.high, 3, "high")
		m := filled(t, high, mid, low)
		for _, more := range []int{1, 2, 100, 115, 116, 1000} {
			k := mid.Key + strings.Repeat(c.many, more)
			unseen(t, m, k, math.MaxUint64)
			row(t, fmt.Sprintf("From(%q)", k), m.From(k), high)
			row(t, fmt.Sprintf("Down(%q)", k), m.Down(k), mid, low)
			k = high.Key + strings.Repeat("\xff", more)
			unseen(t, m, k, math.MaxUint64)
			row(t, "From above all", m.From(k))
			row(t, "Down from above all", m.Down(k), high, mid, low)
		}
	}
}

// TestSeenStays: P8.3, whatever is added with greater numbers.
func TestSeenStays(t *testing.T) {
	keys := []string{"a", "a\x00", "aa", "b", "c"}
	m := memo.New()
	var was []api.Entry // what is seen of each key, number by number
	for n := uint64(1); n <= 60; n++ {
		e := put(keys[n*7%5], n, fmt.Sprint("v", n))
		if n%4 == 0 {
			e = del(e.Key, n)
		}
		want(t, "Add", m.Add(e, int(n%13)), api.OK)
		for _, k := range keys {
			x, _ := m.Get(k, n)
			was = append(was, x)
		}
		for i, wanted := range was {
			got, ok := m.Get(keys[i%5], uint64(i/5+1))
			if got != wanted || ok != (wanted.Kind != 0) {
				t.Fatalf("behind %d: Get(%q, %d): %#v, wanted %#v", n, keys[i%5], i/5+1, got, wanted)
			}
		}
	}
	want(t, "Len", m.Len(), 60)
}

// first: so many of a row, which is left then.
func first(r iter.Seq[api.Entry], n int) iter.Seq[api.Entry] {
	return func(yield func(api.Entry) bool) {
		left := n
		for e := range r {
			left--
			if !yield(e) || left == 0 {
				break
			}
		}
	}
}

// TestRows: they may be left anywhere, gone through again, and tell what is there then.
func TestRows(t *testing.T) {
	m := memo.New()
	all, from, down, whole := m.All(), m.From("b"), m.Down("b"), m.Down("")
	row(t, "All of none", all)
	row(t, "From of none", from)
	row(t, "Down of none", down)
	a, b, b2, c := put("a", 1, "1"), put("b", 2, "2"), del("b", 3), put("c", 4, "4")
	for _, e := range []api.Entry{c, b, a, b2} {
		want(t, "Add", m.Add(e, 2), api.OK)
	}
	for _, x := range []struct {
		row iter.Seq[api.Entry]
		l   []api.Entry
	}{{all, []api.Entry{a, b2, b, c}}, {from, []api.Entry{b2, b, c}}, {down, []api.Entry{b, b2, a}}, {whole, []api.Entry{c, b, b2, a}}} {
		row(t, "whole", x.row, x.l...)
		for n := range x.l {
			row(t, "left", first(x.row, n+1), x.l[:n+1]...)
		}
		row(t, "again", x.row, x.l...)
	}
	s := ""
	for e := range m.All() {
		for d := range m.Down("b") {
			seen(t, m, "a", 9, a)
			s += fmt.Sprint(e.Seq, d.Seq, " ")
		}
	}
	want(t, "rows within rows", s, "1 2 1 3 1 1 3 2 3 3 3 1 2 2 2 3 2 1 4 2 4 3 4 1 ")
}

// TestNil: of a nil memo ErrNil, zero, empty rows.
func TestNil(t *testing.T) {
	var m *memo.Memo
	for _, e := range []api.Entry{{}, put("a", 1, "v"), put("", 1, "v"), put(x(86), 1, ""), {Key: "a"}, put("a", top+1, "v"), del("a", 1)} {
		want(t, "Add", m.Add(e, 1), api.ErrNil)
		unseen(t, m, e.Key, 9)
		row(t, "From", m.From(e.Key))
		row(t, "Down", m.Down(e.Key))
	}
	row(t, "All", m.All())
	want(t, "Len", m.Len(), 0)
	want(t, "Bytes", m.Bytes(), 0)
}

// TestFull: P8.2, layer 7's error at 2^16 entries, but not for one that is there.
func TestFull(t *testing.T) {
	const n = 1 << 16
	m := memo.New()
	for i := range n {
		if e := m.Add(put("k", uint64(i), "v"), i%14); e != api.OK {
			t.Fatalf("Add: %v", e)
		}
	}
	for _, e := range []api.Entry{put("k", n, "v"), del("k", 0), put("a", 1, ""), put("z", 1, "")} {
		want(t, "one more", m.Add(e, 3), api.ErrFull)
		want(t, "Len", m.Len(), n)
		want(t, "Bytes", m.Bytes(), n*10)
	}
	want(t, "one more that can't be", m.Add(put("", 1, ""), 3), api.ErrKey)
	want(t, "one more of no kind", m.Add(api.Entry{Key: "z"}, 3), api.ErrKind)
	want(t, "one more of no number", m.Add(put("z", top+1, ""), 3), api.ErrRange)
	want(t, "one that is there", m.Add(put("k", 5, "five"), 3), api.OK)
	seen(t, m, "k", 5, put("k", 5, "five"))
	want(t, "Len", m.Len(), n)
	want(t, "Bytes", m.Bytes(), n*10+3)
}

// TestTextsOfTheirOwn: what is handed in isn't kept, and answers are new memory.
func TestTextsOfTheirOwn(t *testing.T) {
	m := memo.New()
	key, value := []byte("key"), []byte("value")
	e := put(unsafe.String(&key[0], 3), 1, unsafe.String(&value[0], 5))
	want(t, "Add", m.Add(e, 1), api.OK)
	copy(key, "---")
	copy(value, "-----")
	row(t, "All", m.All(), put("key", 1, "value"))

	var kept []string
	for range 2 {
		e, _ := m.Get("key", 1)
		kept = append(kept, e.Key, e.Value)
		for _, r := range []iter.Seq[api.Entry]{m.All(), m.From("key"), m.Down("key"), m.Down("")} {
			for e := range r {
				kept = append(kept, e.Key, e.Value)
			}
		}
	}
	places := map[*byte]bool{}
	for _, s := range kept {
		want(t, "shared", places[unsafe.StringData(s)], false)
		places[unsafe.StringData(s)] = true
	}
}
