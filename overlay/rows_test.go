package overlay_test

import (
	"fmt"
	"slices"
	"testing"

	"bourse/api"
	"bourse/overlay"
)

// readers: the same pairs, a to f without e, in different ways.
func readers() map[string]overlay.Reader {
	all := pairs("a1 b2 c3 d4 f6")
	own := overlay.Over(nil)
	do(own, changes("f6 d4 c3 b2 a1"))
	above := overlay.Over(overlay.New(pairs("a1 c9 e5 f6")...))
	do(above, changes("b2 c3 d4 -e -g"))
	twice := overlay.Over(above)
	do(twice, changes("a1 -e"))
	return map[string]overlay.Reader{"a shelf": overlay.New(all...), "over a shelf": overlay.Over(overlay.New(all...)), "over nothing": own, "over others": above, "over an overlay": twice}
}

// TestBounds: P22.1, P22.2, from on, below to; the empty to is no end; bounds that are turned hold nothing.
func TestBounds(t *testing.T) {
	all := pairs("a1 b2 c3 d4 f6")
	ends := []string{"", "\x00", "Z", "a", "a\x00", "b", "bb", "c", "d", "e", "f", "f\x00", "g", "\xff"}
	for what, r := range readers() {
		for _, from := range ends {
			for _, to := range ends {
				var wanted []api.Pair
				for _, p := range all {
					if p.Key >= from && (to == "" || p.Key < to) {
						wanted = append(wanted, p)
					}
				}
				list(t, fmt.Sprintf("%s: Range(%q, %q)", what, from, to), slices.Collect(r.Range(from, to)), wanted)
			}
		}
	}
}

// TestRowsAreLeft: left anywhere, gone through as often as one likes, one within another.
func TestRowsAreLeft(t *testing.T) {
	all := pairs("a1 b2 c3 d4 f6")
	for what, r := range readers() {
		row := r.Range("", "")
		for n := range len(all) + 1 {
			var l []api.Pair
			for p := range row {
				if len(l) == n {
					break
				}
				l = append(l, p)
			}
			list(t, fmt.Sprintf("%s: left behind %d", what, n), l, all[:n])
		}
		list(t, what+": gone through once more", slices.Collect(row), all)
		outer := 0
		for p := range row {
			list(t, what+": one within another", slices.Collect(row), all)
			value, ok := r.Get(p.Key)
			want(t, what+": Get within a row", ok && value == p.Value, true)
			outer++
		}
		want(t, what+": the outer one", outer, len(all))
	}
}

// TestRowsOfThen: what a row goes through is what is there when it is gone through, not when it was asked for.
func TestRowsOfThen(t *testing.T) {
	s := overlay.New(pairs("a1")...)
	o := overlay.Over(s)
	below, above := s.Range("", ""), o.Range("", "")
	s.Do(changes("b1"))
	o.Put("c", "2")
	list(t, "a shelf's", slices.Collect(below), pairs("a1 b1"))
	list(t, "an overlay's", slices.Collect(above), pairs("a1 b1 c2"))
	o.Back(0)
	s.Do(changes("-a"))
	list(t, "a shelf's, later", slices.Collect(below), pairs("b1"))
	list(t, "an overlay's, later", slices.Collect(above), pairs("b1"))
}

// TestRowsStay: a row that is being gone through isn't changed by what is done meanwhile; what is done counts behind it.
func TestRowsStay(t *testing.T) {
	all := pairs("a1 b2 c3 d4 f6")
	for _, c := range []struct {
		what   string
		do     func(*overlay.Overlay, api.Pair)
		behind []api.Pair
	}{
		{"Deletes", func(o *overlay.Overlay, p api.Pair) { o.Delete(p.Key) }, nil},
		{"Deletes of what comes", func(o *overlay.Overlay, p api.Pair) { do(o, changes("-c -d -f")) }, pairs("a1 b2")},
		{"Puts of what comes", func(o *overlay.Overlay, p api.Pair) { do(o, changes("c9 d9 e9 f9")) }, pairs("a1 b2 c9 d9 e9 f9")},
		{"Puts ahead", func(o *overlay.Overlay, p api.Pair) { do(o, changes("0z 1z 2z 3z")) }, pairs("0z 1z 2z 3z a1 b2 c3 d4 f6")},
	} {
		for _, mark := range []int{0, 2, 5} {
			o := mixed(mark)
			var l []api.Pair
			for p := range o.Range("", "") {
				l = append(l, p)
				c.do(o, p)
			}
			list(t, c.what+": the row", l, all)
			has(t, c.what+": behind it", o, c.behind)
			o.Back(mark)
			has(t, c.what+": back", o, all)
		}
	}
}

// mixed: a1 to f6, so many of them by changes, which are as many.
func mixed(changed int) *overlay.Overlay {
	all := pairs("a1 b2 c3 d4 f6")
	o := overlay.Over(overlay.New(all[changed:]...))
	for _, p := range slices.Backward(all[:changed]) {
		o.Put(p.Key, p.Value)
	}
	return o
}

// TestRowsEnd: Puts behind what is told go on without an end, if a row went through them.
func TestRowsEnd(t *testing.T) {
	o := mixed(3)
	n := 0
	for p := range o.Range("", "") {
		o.Put(p.Key+"x", "")
		n++
	}
	want(t, "told", n, 5)
	want(t, "there", len(slices.Collect(o.Range("", ""))), 10)
	s := overlay.New(pairs("a1 b2 c3")...)
	n = 0
	for p := range s.Range("", "") {
		s.Do([]api.Change{{Kind: api.Put, Key: p.Key + "x"}, {Kind: api.Delete, Key: p.Key}})
		n++
	}
	want(t, "a shelf's told", n, 3)
	list(t, "a shelf's there", slices.Collect(s.Range("", "")), []api.Pair{{Key: "ax"}, {Key: "bx"}, {Key: "cx"}})
}

// TestBackWithinARow: a row stays, though what it goes through is undone.
func TestBackWithinARow(t *testing.T) {
	for mark := range 6 {
		o := mixed(5)
		var l []api.Pair
		for p := range o.Range("", "") {
			l = append(l, p)
			o.Back(mark)
		}
		list(t, "the row", l, pairs("a1 b2 c3 d4 f6"))
		list(t, "behind it", slices.Collect(o.Range("", "")), pairs("a1 b2 c3 d4 f6")[5-mark:])
	}
}

// TestRowsThatBreak: a row that was left by a panic doesn't hold the overlay.
func TestRowsThatBreak(t *testing.T) {
	o := mixed(3)
	broke := func() (b any) {
		defer func() { b = recover() }()
		for p := range o.Range("", "") {
			o.Put("e", p.Key)
			panic(p.Key)
		}
		return nil
	}()
	want(t, "what it broke with", broke, any("a"))
	has(t, "behind it", o, pairs("a1 b2 c3 d4 ea f6"))
	o.Back(3)
	has(t, "back", o, pairs("a1 b2 c3 d4 f6"))
}
