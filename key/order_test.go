package key_test

import (
	"math"
	"slices"
	"strings"
	"testing"

	"bourse/api"
	"bourse/key"
)

// rising: parts of all sorts, each ahead of the next one.
func rising() []key.Part {
	var l []key.Part
	numbers := []int64{math.MinInt64, math.MinInt64 + 1, -1 << 40, -257, -256, -255, -2, -1, 0, 1, 2, 255, 256, 257, 1 << 40, math.MaxInt64 - 1, math.MaxInt64}
	for _, n := range slices.Backward(numbers) {
		l = append(l, key.Down(n))
	}
	for _, n := range numbers {
		l = append(l, key.Up(n))
	}
	for _, s := range []string{
		"", "\x00", "\x00\x00", "\x00\x00\x00", "\x00\x01", "\x00a", "\x00\xff", "\x00\xff\x00", "\x00\xff\xff",
		"\x01", "\x01\x00", "a", "a\x00", "a\x00\x00", "a\x00b", "a\x00\xff", "a\x01", "aa", "ab", "b", "\x80", "\xfe\xff", "\xff", "\xff\x00", "\xff\xff",
	} {
		l = append(l, key.Text(s))
	}
	for _, n := range []uint64{0, 1, 2, 255, 256, 257, 1 << 32, 1<<63 - 1, 1 << 63, 1<<63 + 1, math.MaxUint64 - 1, math.MaxUint64} {
		l = append(l, key.Count(n))
	}
	return l
}

// ordered: rows of at most two parts, each ahead of the next one, by how they are laid here.
func ordered() [][]key.Part {
	rows := [][]key.Part{nil}
	for _, a := range rising() {
		rows = append(rows, []key.Part{a})
		for _, b := range rising() {
			rows = append(rows, []key.Part{a, b})
		}
	}
	return rows
}

// TestLess: P4.2, parts of all sorts.
func TestLess(t *testing.T) {
	l := rising()
	for i, a := range l {
		for j, b := range l {
			for _, more := range [][]key.Part{nil, {key.Up(1)}, {key.Text("z"), key.Count(3)}} {
				x, y := append([]key.Part{a}, more...), append([]key.Part{b}, more...)
				want(t, "alone", key.Less(x, y), i < j)
				x, y = append(slices.Clone(more), a), append(slices.Clone(more), b)
				want(t, "behind others", key.Less(x, y), i < j)
			}
		}
	}
}

// TestLessRows: P4.2, part by part; the row that ends first ahead.
func TestLessRows(t *testing.T) {
	for _, c := range []struct {
		what string
		a, b []key.Part
		want bool
	}{
		{"nothing and nothing", nil, nil, false},
		{"nothing and an empty row", nil, []key.Part{}, false},
		{"nothing and one", nil, []key.Part{key.Up(1)}, true},
		{"one and nothing", []key.Part{key.Up(1)}, nil, false},
		{"ends first", []key.Part{key.Up(1)}, []key.Part{key.Up(1), key.Up(math.MinInt64)}, true},
		{"ends later", []key.Part{key.Up(1), key.Up(math.MinInt64)}, []key.Part{key.Up(1)}, false},
		{"longer, but ahead", []key.Part{key.Up(1), key.Up(5)}, []key.Part{key.Up(2)}, true},
		{"shorter, but behind", []key.Part{key.Up(2)}, []key.Part{key.Up(1), key.Up(5)}, false},
		{"the first difference", []key.Part{key.Up(1), key.Down(1), key.Up(9)}, []key.Part{key.Up(1), key.Down(0), key.Up(1)}, true},
		{"by the sorts' bytes", []key.Part{key.Down(math.MinInt64)}, []key.Part{key.Up(math.MinInt64)}, true},
		{"a text ahead of a count", []key.Part{key.Text("\xff\xff")}, []key.Part{key.Count(0)}, true},
		{"a rising number ahead of a text", []key.Part{key.Up(math.MaxInt64)}, []key.Part{key.Text("")}, true},
		{"what doesn't count", []key.Part{{Sort: 'i', N: 1, U: 1, S: "a"}}, []key.Part{{Sort: 'i', N: 1, U: 2, S: "b"}}, false},
		{"what doesn't count, of texts", []key.Part{{Sort: 't', N: 1, U: 1, S: "a"}}, []key.Part{{Sort: 't', N: 2, U: 2, S: "a"}}, false},
		{"what doesn't count, of counts", []key.Part{{Sort: 'u', N: 1, U: 1, S: "a"}}, []key.Part{{Sort: 'u', N: 2, U: 1, S: "b"}}, false},
		{"sorts that aren't, by their bytes", []key.Part{{Sort: 0}}, []key.Part{{Sort: 'd'}}, true},
		{"sorts that aren't, high ones", []key.Part{{Sort: 'u', U: math.MaxUint64}}, []key.Part{{Sort: 200}}, true},
		{"one sort that isn't, then a part", []key.Part{{Sort: 'x', N: 5}, key.Up(1)}, []key.Part{{Sort: 'x', N: 1}, key.Up(2)}, true},
		{"longer than any key", []key.Part{key.Text(strings.Repeat("x", 999))}, []key.Part{key.Text(strings.Repeat("x", 1000))}, true},
	} {
		want(t, c.what, key.Less(c.a, c.b), c.want)
		if c.want {
			want(t, c.what+", turned round", key.Less(c.b, c.a), false)
		}
	}
}

// TestKeysRise: P4.3, keys stand in the order of their rows, as Less and the list have it.
func TestKeysRise(t *testing.T) {
	rows := ordered()
	for i := 1; i < len(rows); i++ {
		a, b := made(t, rows[i-1]...), made(t, rows[i]...)
		if !(a < b) || !key.Less(rows[i-1], rows[i]) || key.Less(rows[i], rows[i-1]) {
			t.Fatalf("%v isn't ahead of %v: %x, %x", rows[i-1], rows[i], a, b)
		}
	}
}

// TestKeysAndRows: P4.3, of any two rows: their order, and which one begins the other.
func TestKeysAndRows(t *testing.T) {
	rows := ordered()
	for i := 7; i < len(rows); i += 41 { // a third part, here and there
		rows = append(rows, append(slices.Clone(rows[i]), rising()[i%len(rising())]))
	}
	for i := 0; i < len(rows); i += 5 {
		a := rows[i]
		for j := i % 3; j < len(rows); j += 3 {
			b := rows[j]
			x, y := made(t, a...), made(t, b...)
			if (x < y) != key.Less(a, b) {
				t.Fatalf("%v and %v: %x, %x", a, b, x, y)
			}
			begins := len(a) <= len(b) && slices.Equal(a, b[:len(a)])
			if strings.HasPrefix(y, x) != begins {
				t.Fatalf("does %v begin %v: %x, %x", a, b, x, y)
			}
		}
	}
}

// TestThereAndBack: P4.3, two rows have two keys: each key gives its row.
func TestThereAndBack(t *testing.T) {
	for _, l := range ordered() {
		k := made(t, l...)
		got, e := key.Parts(k)
		if e != api.OK || !slices.Equal(got, l) {
			t.Fatalf("Parts(Make(%v)): %v, %v", l, got, e)
		}
	}
}

// allTexts: of at most that many bytes, of these alone.
func allTexts(bytes string, most int) []string {
	l := []string{""}
	for from := 0; most > 0; most-- {
		to := len(l)
		for _, s := range l[from:to] {
			for i := range len(bytes) {
				l = append(l, s+bytes[i:i+1])
			}
		}
		from = to
	}
	return l
}

// TestBackAndThere: P4.1, bytes that are a key are that of their parts, and no others are.
func TestBackAndThere(t *testing.T) {
	found := 0
	for _, k := range allTexts("tu\x00\xff\x01", 8) {
		l, e := key.Parts(k)
		if e == api.OK {
			found++
			if again := made(t, l...); again != k {
				t.Fatalf("Make(Parts(%x)): %x", k, again)
			}
		} else if e != api.ErrKey || len(l) != 0 {
			t.Fatalf("Parts(%x): %v, %v", k, l, e)
		}
	}
	// Numbers have no room in eight bytes: these are rows of texts alone, and all of them.
	want(t, "keys of at most eight bytes", found, rowsUpTo(8))
}

// rowsUpTo: how many rows of texts have keys of at most so many of these bytes: four that stand for themselves, one (0) that takes two.
func rowsUpTo(most int) int {
	texts := make([]int, most+1) // by how many bytes a text takes, without its sort and end
	texts[0], texts[1] = 1, 4
	for n := 2; n <= most; n++ {
		texts[n] = 4*texts[n-1] + texts[n-2]
	}
	rows := make([]int, most+1)
	rows[0] = 1
	sum := 1
	for n := 1; n <= most; n++ {
		for inner := 0; inner+3 <= n; inner++ {
			rows[n] += texts[inner] * rows[n-inner-3]
		}
		sum += rows[n]
	}
	return sum
}

// TestAfterExamples: P4.2, by hand.
func TestAfterExamples(t *testing.T) {
	long := strings.Repeat("\xff", 1000)
	for _, c := range []struct {
		prefix, want string
		ok           bool
	}{
		{"", "", false},
		{"\xff", "", false},
		{"\xff\xff", "", false},
		{long, "", false},
		{"\x00", "\x01", true},
		{"a", "b", true},
		{"ab", "ac", true},
		{"a\x00", "a\x01", true},
		{"a\xff", "b", true},
		{"a\xff\xff", "b", true},
		{"a" + long, "b", true},
		{"\xffa", "\xffb", true},
		{"\xffa\xff", "\xffb", true},
		{"\xfe", "\xff", true},
		{"\xfe\xff", "\xff", true},
		{"a\xfe", "a\xff", true},
		{"a\xfe\xff", "a\xff", true},
		{"a\xff\xfe", "a\xff\xff", true},
		{"\x7f", "\x80", true},
		{"a\xfd\xff", "a\xfe", true},
		{"\uFFFD", "\xef\xbf\xbe", true},
	} {
		got, ok := key.After(c.prefix)
		if got != c.want || ok != c.ok {
			t.Errorf("After(%x): %x, %v, wanted %x, %v", c.prefix, got, ok, c.want, c.ok)
		}
	}
}

// TestAfter: P4.2, the least one, among all short texts of bytes at the ends.
func TestAfter(t *testing.T) {
	l := allTexts("\x00\x01\xfd\xfe\xff", 4)
	for _, prefix := range l[:156] { // those of at most three bytes
		after, ok := key.After(prefix)
		if !ok && after != "" {
			t.Errorf("After(%x): %x, false", prefix, after)
		}
		for _, s := range l {
			behind := s > prefix && !strings.HasPrefix(s, prefix)
			if got := ok && s >= after; got != behind {
				t.Fatalf("After(%x): %x, %v; is %x behind: %v", prefix, after, ok, s, behind)
			}
		}
	}
}

// TestAfterOfKeys: P4.2 and P4.3, the keys of rows that begin with a row stand from its key on, below what is after it.
func TestAfterOfKeys(t *testing.T) {
	rows := ordered()
	for _, p := range rising() {
		from := made(t, p)
		to, ok := key.After(from)
		want(t, "after a key", ok, true)
		for _, l := range rows {
			k := made(t, l...)
			if got, begins := from <= k && k < to, len(l) > 0 && l[0] == p; got != begins {
				t.Fatalf("%v and %v: %v, wanted %v", p, l, got, begins)
			}
		}
	}
}
