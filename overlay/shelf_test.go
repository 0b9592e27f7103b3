package overlay_test

import (
	"fmt"
	"math"
	"slices"
	"strings"
	"testing"

	"bourse/api"
	"bourse/overlay"
)

// want: a test fails, if something is another thing than was wanted.
func want[T comparable](t *testing.T, what string, got, wanted T) {
	t.Helper()
	if got != wanted {
		t.Errorf("%s: %+v, wanted %+v", what, got, wanted)
	}
}

// list: as want, of lists.
func list[T comparable](t *testing.T, what string, got, wanted []T) {
	t.Helper()
	if !slices.Equal(got, wanted) {
		t.Errorf("%s: %+v, wanted %+v", what, got, wanted)
	}
}

// pairs: "a1 b2" are a with 1 and b with 2; "a" has the empty value.
func pairs(text string) []api.Pair {
	var l []api.Pair
	for _, s := range strings.Fields(text) {
		l = append(l, api.Pair{Key: s[:1], Value: s[1:]})
	}
	return l
}

// changes: "a1 -b" is a Put of a and a Delete of b.
func changes(text string) []api.Change {
	var l []api.Change
	for _, s := range strings.Fields(text) {
		if key, ok := strings.CutPrefix(s, "-"); ok {
			l = append(l, api.Change{Kind: api.Delete, Key: key})
			continue
		}
		l = append(l, api.Change{Kind: api.Put, Key: s[:1], Value: s[1:]})
	}
	return l
}

// has: a reader has these pairs, and no others.
func has(t *testing.T, what string, r overlay.Reader, wanted []api.Pair) {
	t.Helper()
	list(t, what, slices.Collect(r.Range("", "")), wanted)
	there := map[string]bool{}
	for _, p := range wanted {
		there[p.Key] = true
		value, ok := r.Get(p.Key)
		want(t, fmt.Sprintf("%s: Get(%q)", what, p.Key), value, p.Value)
		want(t, fmt.Sprintf("%s: is %q there", what, p.Key), ok, true)
	}
	for _, key := range []string{"", "\x00", "a", "b", "c", "d", "e", "f", "ab", "a\x00", "z", "\xff"} {
		if !there[key] {
			value, ok := r.Get(key)
			want(t, fmt.Sprintf("%s: Get(%q)", what, key), value, "")
			want(t, fmt.Sprintf("%s: is %q there", what, key), ok, false)
		}
	}
}

// TestNew: P22.1, of one key the last pair.
func TestNew(t *testing.T) {
	for _, c := range []struct{ given, wanted string }{
		{"", ""},
		{"a1", "a1"},
		{"a", "a"},
		{"a1 b2 c3", "a1 b2 c3"},
		{"c3 a1 b2", "a1 b2 c3"},
		{"a1 a2", "a2"},
		{"a2 a1", "a1"},
		{"a1 b1 a2 b2 a", "a b2"},
		{"d1 c1 d2 b1 d3 a1 d4", "a1 b1 c1 d4"},
	} {
		l := pairs(c.given)
		s := overlay.New(l...)
		list(t, "what was handed in", l, pairs(c.given))
		has(t, "New of "+c.given, s, pairs(c.wanted))
		want(t, "New of "+c.given+": Len", s.Len(), len(pairs(c.wanted)))
		for i := range l {
			l[i] = api.Pair{Key: "z", Value: "9"}
		}
		has(t, "New of "+c.given+", altered behind it", s, pairs(c.wanted))
	}
	has(t, "New()", overlay.New(), nil)
}

// TestAnyBytes: P22.1, P22.2, keys and values of any bytes, the empty ones, too, rise by their bytes.
func TestAnyBytes(t *testing.T) {
	keys := []string{"", "\x00", "\x00\x00", "A", "a", "a\x00", "aa", "b", "\x7f", "\x80", "é", "\xff", "\xff\xff", strings.Repeat("\xff", 5000)}
	var wanted []api.Pair
	o := overlay.Over(nil)
	s := overlay.New()
	for i, key := range keys {
		value := strings.Repeat("\x00\xff", i)
		wanted = append(wanted, api.Pair{Key: key, Value: value})
		o.Put(key, value)
	}
	for _, p := range slices.Backward(wanted) {
		s.Do([]api.Change{{Kind: api.Put, Key: p.Key, Value: p.Value}})
	}
	list(t, "a shelf", slices.Collect(s.Range("", "")), wanted)
	list(t, "an overlay", slices.Collect(o.Range("", "")), wanted)
	list(t, "an overlay over the shelf", slices.Collect(overlay.Over(s).Range("", "")), wanted)
	for _, r := range []overlay.Reader{s, o, overlay.Over(s), overlay.Over(o)} {
		for i, from := range keys {
			for j, to := range keys {
				var l []api.Pair
				if to == "" {
					l = wanted[i:]
				} else if i < j {
					l = wanted[i:j]
				}
				list(t, fmt.Sprintf("Range(%.9q, %.9q)", from, to), slices.Collect(r.Range(from, to)), l)
			}
			value, ok := r.Get(from)
			want(t, fmt.Sprintf("Get(%.9q)", from), ok && value == wanted[i].Value, true)
		}
	}
}

// TestDo: P22.1, one change behind the other, of layer 6's kinds.
func TestDo(t *testing.T) {
	for _, c := range []struct{ ahead, given, wanted string }{
		{"", "", ""},
		{"a1 b2", "", "a1 b2"},
		{"", "a1", "a1"},
		{"", "-a", ""},
		{"a1", "-a", ""},
		{"a1", "-b", "a1"},
		{"a1", "a2", "a2"},
		{"a1", "a", "a"},
		{"b1 d1", "a2 c2 e2", "a2 b1 c2 d1 e2"},
		{"a1 b1 c1 d1", "-a -c", "b1 d1"},
		{"a1 b1 c1 d1", "-b -d", "a1 c1"},
		{"a1 b1 c1 d1", "-d -c -b -a", ""},
		{"a1", "a2 a3 a4", "a4"},
		{"a1", "a2 -a", ""},
		{"a1", "-a a2", "a2"},
		{"a1", "-a a2 -a", ""},
		{"", "a1 -a a2 b1 -b", "a2"},
		{"b1", "c1 -b a1 -c d1", "a1 d1"},
	} {
		what := fmt.Sprintf("%q behind %q", c.ahead, c.given)
		s, l := overlay.New(pairs(c.ahead)...), changes(c.given)
		s.Do(l)
		list(t, "what was handed in", l, changes(c.given))
		has(t, what, s, pairs(c.wanted))
		want(t, what+": Len", s.Len(), len(pairs(c.wanted)))
		for i := range l {
			l[i] = api.Change{Kind: api.Put, Key: "z", Value: "9"}
		}
		has(t, what+", altered behind it", s, pairs(c.wanted))
	}
}

// TestDoKinds: P22.1, of other kinds nothing is done; a Delete's value doesn't count.
func TestDoKinds(t *testing.T) {
	for _, kind := range []int{math.MinInt, -1, 0, 3, 255, 257, 1 + 1<<32, 2 + 1<<32, math.MaxInt} {
		s := overlay.New(pairs("a1 b2")...)
		s.Do([]api.Change{{Kind: kind, Key: "a", Value: "9"}, {Kind: kind, Key: "c", Value: "9"}, {Kind: kind}})
		has(t, fmt.Sprint("the kind ", kind), s, pairs("a1 b2"))
		s.Do([]api.Change{{Kind: api.Put, Key: "a", Value: "3"}, {Kind: kind, Key: "a", Value: "9"}, {Kind: api.Delete, Key: "b"}, {Kind: kind, Key: "b", Value: "9"}})
		has(t, fmt.Sprint("the kind behind others ", kind), s, pairs("a3"))
	}
	s := overlay.New(pairs("a1 b2")...)
	s.Do([]api.Change{{Kind: api.Delete, Key: "a", Value: "5"}, {Kind: api.Delete, Key: "c", Value: "5"}})
	has(t, "a Delete with a value", s, pairs("b2"))
}

// TestNilShelf: does nothing, and answers what there is of nothing.
func TestNilShelf(t *testing.T) {
	var s *overlay.Shelf
	s.Do(changes("a1"))
	s.Do(nil)
	has(t, "a nil shelf", s, nil)
	want(t, "Len", s.Len(), 0)
}
