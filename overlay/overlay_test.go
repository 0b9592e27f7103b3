package overlay_test

import (
	"fmt"
	"iter"
	"math"
	"slices"
	"testing"

	"bourse/api"
	"bourse/overlay"
)

// do: changes of an overlay.
func do(o *overlay.Overlay, l []api.Change) {
	for _, c := range l {
		if c.Kind == api.Put {
			o.Put(c.Key, c.Value)
		} else {
			o.Delete(c.Key)
		}
	}
}

// TestOver: P22.2, P22.4, what it has, and what it tells, by hand.
func TestOver(t *testing.T) {
	for _, c := range []struct{ below, given, has, tells string }{
		{"", "", "", ""},
		{"a1 b2", "", "a1 b2", ""},
		{"", "a1", "a1", "a1"},
		{"", "a", "a", "a"},
		{"", "-a", "", ""},
		{"", "a1 -a", "", ""},
		{"", "-a a1", "a1", "a1"},
		{"a1", "-a", "", "-a"},
		{"a1", "a1", "a1", ""},
		{"a1", "a2", "a2", "a2"},
		{"a1", "a", "a", "a"},
		{"a", "a", "a", ""},
		{"a", "-a", "", "-a"},
		{"a1", "a2 a1", "a1", ""},
		{"a1", "-a a1", "a1", ""},
		{"a1", "-a a2", "a2", "a2"},
		{"a1", "a2 -a", "", "-a"},
		{"a1", "a2 a3 a4", "a4", "a4"},
		{"b1 d1", "e2 c2 a2", "a2 b1 c2 d1 e2", "a2 c2 e2"},
		{"b1 d1", "-d -b", "", "-b -d"},
		{"b1 d1", "-e -c -a", "b1 d1", ""},
		{"a1 b1 c1 d1", "d2 -c b1 -a e2 -f", "b1 d2 e2", "-a -c d2 e2"},
		{"c1", "a2 b2", "a2 b2 c1", "a2 b2"},
		{"a1", "b2 c2", "a1 b2 c2", "b2 c2"},
		{"a1 b1 c1", "a2 b2 c2", "a2 b2 c2", "a2 b2 c2"},
		{"a1 b1 c1", "c1 b1 a1", "a1 b1 c1", ""},
	} {
		what := fmt.Sprintf("%q behind %q", c.below, c.given)
		s := overlay.New(pairs(c.below)...)
		o := overlay.Over(s)
		do(o, changes(c.given))
		has(t, what, o, pairs(c.has))
		list(t, what+": Changes", o.Changes(), changes(c.tells))
		want(t, what+": Mark", o.Mark(), len(changes(c.given)))
		has(t, what+": below", s, pairs(c.below))
		s.Do(o.Changes())
		has(t, what+": done below", s, pairs(c.has))
		has(t, what+": behind that", o, pairs(c.has))
		list(t, what+": Changes behind that", o.Changes(), nil)
	}
}

// TestChangesAreOfNow: P22.2, what isn't as it is below hangs on what is below when it is asked.
func TestChangesAreOfNow(t *testing.T) {
	s := overlay.New(pairs("a1 b1 c1")...)
	o := overlay.Over(s)
	do(o, changes("a2 -b d2 -e"))
	list(t, "first", o.Changes(), changes("a2 -b d2"))
	s.Do(changes("a2 -b d3 e3 f3"))
	list(t, "others below", o.Changes(), changes("d2 -e"))
	has(t, "others below", o, pairs("a2 c1 d2 f3"))
	s.Do(changes("a1 b1 -d -e -f"))
	list(t, "as it was", o.Changes(), changes("a2 -b d2"))
	o.Back(0)
	s.Do(changes("-a g1"))
	has(t, "without changes as below", o, pairs("b1 c1 g1"))
	list(t, "without changes", o.Changes(), nil)
}

// TestOverNothing: P22.2, over nil, over nil shelves and overlays.
func TestOverNothing(t *testing.T) {
	var shelf *overlay.Shelf
	var none *overlay.Overlay
	for what, o := range map[string]*overlay.Overlay{
		"nil": overlay.Over(nil), "a nil shelf": overlay.Over(shelf), "a nil overlay": overlay.Over(none), "an empty shelf": overlay.Over(overlay.New()), "over nil": overlay.Over(overlay.Over(nil)),
	} {
		has(t, what, o, nil)
		list(t, what, o.Changes(), nil)
		o.Put("a", "1")
		o.Put("b", "2")
		o.Delete("b")
		o.Delete("c")
		has(t, what, o, pairs("a1"))
		list(t, what, o.Changes(), changes("a1"))
		o.Delete("a")
		has(t, what, o, nil)
		list(t, what+": a Put, a Delete", o.Changes(), nil)
		want(t, what+": Mark", o.Mark(), 5)
	}
}

// TestNilOverlay: does nothing, and answers what there is of nothing.
func TestNilOverlay(t *testing.T) {
	var o *overlay.Overlay
	o.Put("a", "1")
	o.Delete("a")
	o.Back(0)
	o.Back(-1)
	o.Back(1)
	has(t, "a nil overlay", o, nil)
	list(t, "Changes", o.Changes(), nil)
	want(t, "Mark", o.Mark(), 0)
}

// TestBack: P22.3, to each mark, and none beyond.
func TestBack(t *testing.T) {
	below := "a1 b1 c1"
	given := changes("a2 -b d2 a2 b3 -d -e d4 e1 -a a1 -c c1 f6")
	states := []string{ // what there is behind so many changes
		"a1 b1 c1", "a2 b1 c1", "a2 c1", "a2 c1 d2", "a2 c1 d2", "a2 b3 c1 d2", "a2 b3 c1", "a2 b3 c1", "a2 b3 c1 d4", "a2 b3 c1 d4 e1", "b3 c1 d4 e1", "a1 b3 c1 d4 e1", "a1 b3 d4 e1", "a1 b3 c1 d4 e1", "a1 b3 c1 d4 e1 f6",
	}
	tells := []string{
		"", "a2", "a2 -b", "a2 -b d2", "a2 -b d2", "a2 b3 d2", "a2 b3", "a2 b3", "a2 b3 d4", "a2 b3 d4 e1", "-a b3 d4 e1", "b3 d4 e1", "b3 -c d4 e1", "b3 d4 e1", "b3 d4 e1 f6",
	}
	for first := range len(given) + 1 {
		for then := range first + 1 {
			s := overlay.New(pairs(below)...)
			o := overlay.Over(s)
			do(o, given[:first])
			for _, mark := range []int{first, first + 1, -1, math.MinInt, math.MaxInt} {
				o.Back(mark)
				want(t, fmt.Sprintf("%d changes, Back(%d): Mark", first, mark), o.Mark(), first)
				has(t, fmt.Sprintf("%d changes, Back(%d)", first, mark), o, pairs(states[first]))
				list(t, fmt.Sprintf("%d changes, Back(%d): Changes", first, mark), o.Changes(), changes(tells[first]))
			}
			o.Back(then)
			what := fmt.Sprintf("%d changes, Back(%d)", first, then)
			want(t, what+": Mark", o.Mark(), then)
			has(t, what, o, pairs(states[then]))
			list(t, what+": Changes", o.Changes(), changes(tells[then]))
			do(o, given[then:])
			has(t, what+", and on", o, pairs(states[len(given)]))
			list(t, what+", and on: Changes", o.Changes(), changes(tells[len(given)]))
			o.Back(then)
			o.Back(0)
			want(t, what+", and to the beginning: Mark", o.Mark(), 0)
			has(t, what+", and to the beginning", o, pairs(below))
			has(t, what+": below", s, pairs(below))
		}
	}
}

// asked is a reader of the tests' own, which writes down what it is asked.
type asked struct {
	*overlay.Shelf
	ranges []string
	gives  int
}

func (a *asked) Range(from, to string) iter.Seq[api.Pair] {
	return func(yield func(api.Pair) bool) {
		a.ranges = append(a.ranges, from+".."+to)
		for p := range a.Shelf.Range(from, to) {
			a.gives++
			if !yield(p) {
				return
			}
		}
	}
}

// TestAnyReader: P22.2, over a reader of any kind, of which only pairs within the bounds are asked, and only as long as they are wanted.
func TestAnyReader(t *testing.T) {
	a := &asked{Shelf: overlay.New(pairs("a1 b1 c1 d1 e1")...)}
	o := overlay.Over(a)
	do(o, changes("c2 -d f2"))
	list(t, "within", slices.Collect(o.Range("b", "e")), pairs("b1 c2"))
	list(t, "what was asked", a.ranges, []string{"b..e"})
	list(t, "what it has", slices.Collect(o.Range("d", "")), pairs("e1 f2"))
	a.gives = 0
	for p := range o.Range("", "") {
		want(t, "the first one", p, api.Pair{Key: "a", Value: "1"})
		break
	}
	want(t, "left at once", a.gives, 1)
	row := o.Range("", "")
	asks := len(a.ranges)
	list(t, "a row", slices.Collect(row), pairs("a1 b1 c2 e1 f2"))
	list(t, "once more", slices.Collect(row), pairs("a1 b1 c2 e1 f2"))
	want(t, "gone through twice", len(a.ranges), asks+2)
	value, ok := o.Get("b")
	want(t, "Get", ok && value == "1", true)
}

// TestStacked: P22.2, P22.4, overlays over overlays: each has its own, and leaves those below.
func TestStacked(t *testing.T) {
	s := overlay.New(pairs("a1 b1 c1")...)
	one := overlay.Over(s)
	two := overlay.Over(one)
	three := overlay.Over(two)
	do(one, changes("a2 -b d2"))
	do(two, changes("b3 -c -d e3"))
	do(three, changes("a1 c4 -e d2"))
	has(t, "the shelf", s, pairs("a1 b1 c1"))
	has(t, "the first", one, pairs("a2 c1 d2"))
	has(t, "the second", two, pairs("a2 b3 e3"))
	has(t, "the third", three, pairs("a1 b3 c4 d2"))
	list(t, "the first: Changes", one.Changes(), changes("a2 -b d2"))
	list(t, "the second: Changes", two.Changes(), changes("b3 -c -d e3"))
	list(t, "the third: Changes", three.Changes(), changes("a1 c4 d2 -e"))
	do(two, three.Changes())
	list(t, "the second, with the third's: Changes", two.Changes(), changes("a1 b3 c4"))
	list(t, "the third: Changes behind that", three.Changes(), nil)
	has(t, "the third behind that", three, pairs("a1 b3 c4 d2"))
	one.Back(0)
	has(t, "the second without the first", two, pairs("a1 b3 c4 d2"))
	two.Back(0)
	has(t, "the third alone", three, pairs("a1 b1 c4 d2"))
}

// TestNested: P1, overlays nested as deep as is promised.
func TestNested(t *testing.T) {
	const deep = 1<<16 - 2
	var r overlay.Reader = overlay.New(pairs("a1 b1")...)
	for range deep {
		r = overlay.Over(r)
	}
	o := overlay.Over(r)
	do(o, changes("-a b1 c2"))
	list(t, "Range", slices.Collect(o.Range("", "")), pairs("b1 c2"))
	list(t, "Changes", o.Changes(), changes("-a c2"))
	value, ok := r.Get("a")
	want(t, "Get", ok && value == "1", true)
}

// TestAnswersAreNew: what Changes answers is nobody else's.
func TestAnswersAreNew(t *testing.T) {
	o := overlay.Over(overlay.New(pairs("a1")...))
	do(o, changes("a2 b2"))
	l := o.Changes()
	more := o.Changes()
	for i := range l {
		l[i] = api.Change{Kind: 9, Key: "z", Value: "9"}
	}
	list(t, "another answer", more, changes("a2 b2"))
	list(t, "the next one", o.Changes(), changes("a2 b2"))
	has(t, "what it has", o, pairs("a2 b2"))
}
