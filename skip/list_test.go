package skip_test

import (
	"fmt"
	"iter"
	"math"
	"slices"
	"testing"
	"unsafe"

	"bourse/api"
	"bourse/skip"
)

// want: a test fails, if something is another thing than was wanted.
func want[T comparable](t *testing.T, what string, got, wanted T) {
	t.Helper()
	if got != wanted {
		t.Errorf("%s: %v, wanted %v", what, got, wanted)
	}
}

func of(key, value string) api.Pair { return api.Pair{Key: key, Value: value} }

// told: a row's pairs.
func told(r iter.Seq2[string, string]) []api.Pair {
	var l []api.Pair
	for k, v := range r {
		l = append(l, of(k, v))
	}
	return l
}

// row: a test fails, if a row tells other pairs than were wanted.
func row(t *testing.T, what string, r iter.Seq2[string, string], wanted ...api.Pair) {
	t.Helper()
	if got := told(r); !slices.Equal(got, wanted) {
		t.Errorf("%s: %q, wanted %q", what, got, wanted)
	}
}

// get: a test fails, if a key's value isn't what was wanted.
func get(t *testing.T, l *skip.List, key, value string, there bool) {
	t.Helper()
	if v, ok := l.Get(key); v != value || ok != there {
		t.Errorf("Get(%q): %q, %v, wanted %q, %v", key, v, ok, value, there)
	}
}

// put: a test fails, if that isn't OK.
func put(t *testing.T, l *skip.List, key, value string, height int) {
	t.Helper()
	want(t, fmt.Sprintf("Put(%q)", key), l.Put(key, value, height), api.OK)
}

// TestNone: P7.1 and P7.2, of an empty list.
func TestNone(t *testing.T) {
	l := skip.New()
	want(t, "Len", l.Len(), 0)
	want(t, "Bytes", l.Bytes(), 0)
	want(t, "Steps", l.Steps(), 0)
	for _, k := range []string{"", "a", "\x00", "\xff\xff"} {
		get(t, l, k, "", false)
		want(t, "Height", l.Height(k), 0)
		row(t, "From", l.From(k))
		row(t, "Down", l.Down(k))
		want(t, "Steps", l.Steps(), 0)
	}
	want(t, "another one", skip.New() != l, true)
}

// TestOne: P7.1 and P7.2, of one key.
func TestOne(t *testing.T) {
	l := skip.New()
	put(t, l, "b", "12", 3)
	want(t, "Len", l.Len(), 1)
	want(t, "Bytes", l.Bytes(), 3)
	want(t, "Height", l.Height("b"), 3)
	get(t, l, "b", "12", true)
	for _, k := range []string{"", "a", "b\x00", "ba", "c", "B"} {
		get(t, l, k, "", false)
		want(t, "Height of another one", l.Height(k), 0)
	}
	b := of("b", "12")
	row(t, "From nothing", l.From(""), b)
	row(t, "From below", l.From("a"), b)
	row(t, "From it", l.From("b"), b)
	row(t, "From above", l.From("b\x00"))
	row(t, "Down from nothing", l.Down(""), b)
	row(t, "Down from below", l.Down("a\xff"))
	row(t, "Down from it", l.Down("b"), b)
	row(t, "Down from above", l.Down("c"), b)
}

// TestExample: the chapter's.
func TestExample(t *testing.T) {
	l := skip.New()
	put(t, l, "b", "1", 1)
	put(t, l, "a", "2", 1)
	row(t, "From", l.From(""), of("a", "2"), of("b", "1"))
}

// TestPutAgain: P7.1, its value is new, its tower isn't.
func TestPutAgain(t *testing.T) {
	l := skip.New()
	put(t, l, "a", "1", 2)
	put(t, l, "b", "22", 5)
	put(t, l, "c", "", 1)
	for i, v := range []string{"", "x", "long one", "y", ""} {
		for _, height := range []int{math.MinInt, 1, 7, 12, math.MaxInt} {
			put(t, l, "b", v, height)
			want(t, "Height", l.Height("b"), 5)
			want(t, "Len", l.Len(), 3)
			want(t, fmt.Sprint("Bytes ", i), l.Bytes(), 4+len(v))
			get(t, l, "b", v, true)
			row(t, "From", l.From(""), of("a", "1"), of("b", v), of("c", ""))
			row(t, "Down", l.Down(""), of("c", ""), of("b", v), of("a", "1"))
		}
	}
	want(t, "Height of a", l.Height("a"), 2)
	want(t, "Height of c", l.Height("c"), 1)
}

// TestHeights: P7.1, 1 below 1, 12 above 12.
func TestHeights(t *testing.T) {
	l := skip.New()
	heights := map[string]int{}
	for i, height := range []int{
		math.MinInt, math.MinInt32, -12, -1, 0, 1, 2, 3, 4, 5, 6, 7, 8, 9, 10, 11, 12, 13, 14, 24,
		1 << 16, 1<<32 + 3, math.MaxInt32, math.MaxInt,
	} {
		k := fmt.Sprintf("%02d", i*7%24)
		heights[k] = min(max(height, 1), 12)
		put(t, l, k, "", height)
	}
	for k, height := range heights {
		want(t, "Height of "+k, l.Height(k), height)
	}
	want(t, "Len", l.Len(), len(heights))
	want(t, "From", len(told(l.From(""))), len(heights))
}

// TestTheEmptyKey: P7.1 and P7.2, it is one as others are; Down of it is all.
func TestTheEmptyKey(t *testing.T) {
	l := skip.New()
	put(t, l, "a", "1", 1)
	put(t, l, "", "none", 4)
	nothing, a := of("", "none"), of("a", "1")
	get(t, l, "", "none", true)
	want(t, "Height", l.Height(""), 4)
	want(t, "Len", l.Len(), 2)
	want(t, "Bytes", l.Bytes(), 6)
	row(t, "From", l.From(""), nothing, a)
	row(t, "From behind it", l.From("\x00"), a)
	row(t, "Down", l.Down(""), a, nothing)
	row(t, "Down from behind it", l.Down("\x00"), nothing)
	row(t, "Down from a", l.Down("a"), a, nothing)
}

// TestLeft: rows may be left anywhere, and gone through again.
func TestLeft(t *testing.T) {
	l := skip.New()
	for i, k := range []string{"c", "a", "d", "b"} {
		put(t, l, k, k, i+1)
	}
	for what, r := range map[string]iter.Seq2[string, string]{"abcd": l.From(""), "bcd": l.From("aa"), "dcba": l.Down(""), "cba": l.Down("cc")} {
		for n := range len(what) + 1 {
			s := ""
			for k, v := range r {
				if len(s) == n {
					break
				}
				want(t, "its value", v, k)
				s += k
			}
			want(t, "left", s, what[:n])
		}
	}
}

// TestRowsTellWhatIsThere: what was put since they were asked for, too.
func TestRowsTellWhatIsThere(t *testing.T) {
	l := skip.New()
	from, all, down := l.From("b"), l.Down(""), l.Down("b")
	check := func(f, a, d []api.Pair) {
		t.Helper()
		for range 2 {
			row(t, "From", from, f...)
			row(t, "Down of nothing", all, a...)
			row(t, "Down", down, d...)
		}
	}
	a, b, c := of("a", "1"), of("b", "2"), of("c", "3")
	check(nil, nil, nil)
	put(t, l, "a", "1", 3)
	check(nil, []api.Pair{a}, []api.Pair{a})
	put(t, l, "c", "3", 1)
	check([]api.Pair{c}, []api.Pair{c, a}, []api.Pair{a})
	put(t, l, "b", "2", 12)
	check([]api.Pair{b, c}, []api.Pair{c, b, a}, []api.Pair{b, a})
	put(t, l, "b", "4", 1)
	b.Value = "4"
	check([]api.Pair{b, c}, []api.Pair{c, b, a}, []api.Pair{b, a})
}

// TestRowsWithinRows: each goes its own way, whatever is asked on the way.
func TestRowsWithinRows(t *testing.T) {
	l := skip.New()
	for i, k := range []string{"b", "c", "a"} {
		put(t, l, k, k, i+1)
	}
	s := ""
	for k := range l.From("") {
		for d := range l.Down("") {
			get(t, l, "b", "b", true)
			want(t, "Height", l.Height("a"), 3)
			s += k + d + " "
		}
	}
	want(t, "rows", s, "ac ab aa bc bb ba cc cb ca ")
}

// TestListsApart: what is put into one isn't in another one.
func TestListsApart(t *testing.T) {
	a, b := skip.New(), skip.New()
	put(t, a, "k", "1", 2)
	put(t, b, "k", "2", 1)
	put(t, b, "l", "3", 1)
	row(t, "one", a.From(""), of("k", "1"))
	row(t, "another one", b.From(""), of("k", "2"), of("l", "3"))
}

// TestNil: of a nil list ErrNil, zero, empty rows.
func TestNil(t *testing.T) {
	var l *skip.List
	for _, k := range []string{"", "a"} {
		for _, height := range []int{-1, 1, 99} {
			want(t, "Put", l.Put(k, "1", height), api.ErrNil)
		}
		get(t, l, k, "", false)
		want(t, "Height", l.Height(k), 0)
		row(t, "From", l.From(k))
		row(t, "Down", l.Down(k))
	}
	want(t, "Len", l.Len(), 0)
	want(t, "Bytes", l.Bytes(), 0)
	want(t, "Steps", l.Steps(), 0)
}

// memory: where a text's bytes stand.
func memory(s string) *byte { return unsafe.StringData(s) }

// TestTextsOfTheirOwn: what is handed in isn't kept, and answers are new memory.
func TestTextsOfTheirOwn(t *testing.T) {
	l := skip.New()
	key, value := []byte("key"), []byte("value")
	put(t, l, unsafe.String(&key[0], len(key)), unsafe.String(&value[0], len(value)), 2)
	copy(value, "other")
	get(t, l, "key", "value", true)
	copy(value, "third")
	put(t, l, "key", unsafe.String(&value[0], len(value)), 2)
	copy(value, "-----")
	copy(key, "---")
	row(t, "From", l.From(""), of("key", "third"))

	seen := map[*byte]bool{}
	fresh := func(s string) {
		t.Helper()
		want(t, "shared", seen[memory(s)], false)
		seen[memory(s)] = true
	}
	kept := []string{} // so that no memory is given twice
	for range 2 {
		v, _ := l.Get("key")
		kept = append(kept, v)
		for _, r := range []iter.Seq2[string, string]{l.From(""), l.Down(""), l.Down("key")} {
			for k, v := range r {
				kept = append(kept, k, v)
			}
		}
	}
	for _, s := range kept {
		fresh(s)
	}
}
