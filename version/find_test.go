package version_test

import (
	"fmt"
	"math"
	"slices"
	"testing"

	"bourse/api"
	"bourse/edit"
	"bourse/version"
)

// TestOverlap: P13.2, bounds below, between, at and beyond files, and bounds that are turned round.
func TestOverlap(t *testing.T) {
	l := spans(9, "c e", "g g", "i m") // 9, 8 and 7
	for _, c := range []struct {
		least, most string
		want        []uint64
	}{
		{"a", "b", nil},
		{"", "", nil},
		{"", "b", nil},
		{"", "bzzz", nil},
		{"", "c", []uint64{9}},
		{"a", "c", []uint64{9}},
		{"c", "c", []uint64{9}},
		{"cc", "dd", []uint64{9}},
		{"e", "e", []uint64{9}},
		{"e", "f", []uint64{9}},
		{"b\xff", "c", []uint64{9}},
		{"e\x00", "f", nil},
		{"f", "f", nil},
		{"f", "f\xff", nil},
		{"e\x00", "f\xff\xff", nil},
		{"e\x00", "g", []uint64{8}},
		{"g", "g", []uint64{8}},
		{"g", "h", []uint64{8}},
		{"g\x00", "h", nil},
		{"h", "i", []uint64{7}},
		{"j", "k", []uint64{7}},
		{"m", "m", []uint64{7}},
		{"m", "z", []uint64{7}},
		{"m\x00", "z", nil},
		{"n", "z", nil},
		{"z", "z", nil},
		{"e", "g", []uint64{9, 8}},
		{"g", "i", []uint64{8, 7}},
		{"e\x00", "i", []uint64{8, 7}},
		{"e", "i", []uint64{9, 8, 7}},
		{"a", "z", []uint64{9, 8, 7}},
		{"", "\xff", []uint64{9, 8, 7}},
		{"", x(5000), []uint64{9, 8, 7}},
		{"c", "m", []uint64{9, 8, 7}},
		// Bounds that are turned round: neither is below the file's other one.
		{"z", "a", nil},
		{"z", "", nil},
		{"c", "", nil},
		{"h", "f", nil},
		{"e", "c", []uint64{9}},
		{"d", "c", []uint64{9}},
		{"e", "d", []uint64{9}},
		{"dd", "d", []uint64{9}},
		{"e\x00", "d", nil},
		{"d", "b", nil},
		{"m", "i", []uint64{7}},
		{"k", "j", []uint64{7}},
		{"j", "f", nil},
		{"i", "g", nil},
		{"g", "e", nil},
		{"g", "g\x00", []uint64{8}},
		{"g\x00", "g", nil},
	} {
		for level := range api.Levels {
			what := fmt.Sprintf("from %.9q to %.9q on level %d", c.least, c.most, level)
			v := of(spans(40, "a z"), spans(30, "a z"), spans(20, "a z"), spans(10, "a z"))
			v.Levels[level] = l
			list(t, what, numbers(v.Overlap(level, c.least, c.most)), c.want...)
			for i := range level + 1 {
				v.Levels[i] = spans(50, "a z") // those ahead don't count
			}
			for i := level; i < api.Levels; i++ {
				v.Levels[i] = nil
			}
			want(t, what+": Bottom, nothing behind", v.Bottom(level-1, c.least, c.most), true)
			v.Levels[level] = l
			want(t, what+": Bottom", v.Bottom(level-1, c.least, c.most), len(c.want) == 0)
		}
	}
	list(t, "whole files", on(1, l...).Overlap(1, "a", "z"), l...)
}

// TestOverlapZero: P13.2, of level 0 those that overlap the bounds alone, by their numbers.
func TestOverlapZero(t *testing.T) {
	v := of(spans(9, "m p", "a c", "b n", "a z", "d d", "x z"))
	list(t, "all", numbers(v.Overlap(0, "a", "z")), 9, 8, 7, 6, 5, 4)
	list(t, "at d", numbers(v.Overlap(0, "d", "d")), 7, 6, 5)
	list(t, "from o", numbers(v.Overlap(0, "o", "w")), 9, 6)
	list(t, "from n", numbers(v.Overlap(0, "n", "x")), 9, 7, 6, 4)
	list(t, "turned round", numbers(v.Overlap(0, "y", "b")), 6)
	list(t, "a file that isn't right", numbers(of(spans(9, "d b", "c c")).Overlap(0, "a", "z")), 9, 8)
	list(t, "a file that isn't right, within", numbers(of(spans(9, "d b", "c c")).Overlap(0, "c", "c")), 8)
}

// TestLevelsBeyond: P13.2, P13.3, of levels that there aren't.
func TestLevelsBeyond(t *testing.T) {
	v := of(spans(40, "a z"), spans(30, "b y"), spans(20, "c x"), spans(10, "d w"))
	for _, level := range beyond() {
		what := fmt.Sprint("level ", level)
		list(t, what, v.Overlap(level, "a", "z"))
		list(t, what, v.Overlap(level, "", ""))
		want(t, what+": Bottom within all", v.Bottom(level, "m", "m"), level > 3)
		want(t, what+": Bottom of what level 0 has", v.Bottom(level, "a", "a"), level > 3)
		want(t, what+": Bottom of what none has", v.Bottom(level, "zz", "zz"), true)
	}
}

// TestBottom: P13.2, of each level the files on those behind it.
func TestBottom(t *testing.T) {
	v := of(spans(40, "a z"), spans(30, "b y"), spans(20, "c x"), spans(10, "d w"))
	for level, keys := range map[int][2]string{-1: {"a", "0"}, 0: {"b", "a"}, 1: {"c", "b"}, 2: {"d", "c"}} {
		what := fmt.Sprint("level ", level)
		want(t, what+": at a key of one behind", v.Bottom(level, keys[0], keys[0]), false)
		want(t, what+": all", v.Bottom(level, "a", "z"), false)
		want(t, what+": at a key of those ahead alone", v.Bottom(level, keys[1], keys[1]), true)
		want(t, what+": up to such a key", v.Bottom(level, "0", keys[1]), true)
		want(t, what+": none", v.Bottom(level, "zz", "zzz"), true)
	}
	want(t, "the last level", v.Bottom(3, "a", "z"), true)
	for level := range api.Levels {
		want(t, "of no files", version.Version{}.Bottom(level, "a", "z"), true)
		for i := range api.Levels {
			want(t, fmt.Sprintf("a file on level %d, behind %d", i, level), on(i, spans(5, "a b", "m m")...).Bottom(level, "k", "p"), i <= level)
			want(t, fmt.Sprintf("none between files on level %d, behind %d", i, level), on(i, spans(5, "a b", "m m")...).Bottom(level, "c", "d"), true)
		}
	}
}

// row: what a row tells, at most so many.
func row(v version.Version, key string, most int) []edit.At {
	var l []edit.At
	for level, f := range v.For(key) {
		l = append(l, edit.At{Level: level, File: f})
		if len(l) == most {
			break
		}
	}
	return l
}

// TestFor: P13.2, keys at both ends of files, within and beside them.
func TestFor(t *testing.T) {
	v := of(spans(49, "m p", "a c", "b n", "d d"), spans(39, "b d", "e e", "g k"), nil, spans(19, "a b", "c z"))
	for _, c := range []struct {
		key  string
		want [][2]uint64
	}{
		{"", nil},
		{"0", nil},
		{"a", [][2]uint64{{0, 48}, {3, 19}}},
		{"aa", [][2]uint64{{0, 48}, {3, 19}}},
		{"b", [][2]uint64{{0, 48}, {0, 47}, {1, 39}, {3, 19}}},
		{"b\x00", [][2]uint64{{0, 48}, {0, 47}, {1, 39}}},
		{"c", [][2]uint64{{0, 48}, {0, 47}, {1, 39}, {3, 18}}},
		{"c\x00", [][2]uint64{{0, 47}, {1, 39}, {3, 18}}},
		{"d", [][2]uint64{{0, 47}, {0, 46}, {1, 39}, {3, 18}}},
		{"d\x00", [][2]uint64{{0, 47}, {3, 18}}},
		{"e", [][2]uint64{{0, 47}, {1, 38}, {3, 18}}},
		{"e\x00", [][2]uint64{{0, 47}, {3, 18}}},
		{"f\xff", [][2]uint64{{0, 47}, {3, 18}}},
		{"g", [][2]uint64{{0, 47}, {1, 37}, {3, 18}}},
		{"k", [][2]uint64{{0, 47}, {1, 37}, {3, 18}}},
		{"l", [][2]uint64{{0, 47}, {3, 18}}},
		{"m", [][2]uint64{{0, 49}, {0, 47}, {3, 18}}},
		{"n", [][2]uint64{{0, 49}, {0, 47}, {3, 18}}},
		{"p", [][2]uint64{{0, 49}, {3, 18}}},
		{"q", [][2]uint64{{3, 18}}},
		{"z", [][2]uint64{{3, 18}}},
		{"z\x00", nil},
		{"\xff", nil},
		{x(5000), [][2]uint64{{3, 18}}},
		{"zz" + x(5000), nil},
	} {
		var got [][2]uint64
		for _, a := range row(v, c.key, math.MaxInt) {
			got = append(got, [2]uint64{uint64(a.Level), a.File.Number})
		}
		what := fmt.Sprintf("For(%.9q)", c.key)
		list(t, what, got, c.want...)
		for n := 1; n <= len(c.want); n++ {
			list(t, what+", left off", row(v, c.key, n), row(v, c.key, math.MaxInt)[:n]...)
		}
	}
	list(t, "whole files", row(v, "e", math.MaxInt), edit.At{File: file(47, "b", "n")}, edit.At{Level: 1, File: file(38, "e", "e")}, edit.At{Level: 3, File: file(18, "c", "z")})
	list(t, "of no files", row(version.Version{}, "a", math.MaxInt))
	list(t, "of no files, the empty key", row(version.Version{}, "", math.MaxInt))
}

// TestForLeftOff: P13.2, the row is left at once, and begins anew.
func TestForLeftOff(t *testing.T) {
	v := of(spans(49, "a z", "b y"), spans(39, "a z"), spans(29, "a z"), spans(19, "a z"))
	all := v.For("m")
	for n := 1; n <= 5; n++ {
		calls := 0
		all(func(int, edit.File) bool {
			calls++
			return calls < n
		})
		want(t, "calls", calls, n)
	}
	for range 2 {
		var seen []uint64
		for _, f := range all {
			seen = append(seen, f.Number)
		}
		list(t, "gone through again", seen, 49, 48, 39, 29, 19)
	}
	for i, f := range all {
		for j, g := range all {
			want(t, "one within another one", slices.Contains(v.Levels[i], f) && slices.Contains(v.Levels[j], g), true)
		}
	}
}
