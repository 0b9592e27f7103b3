package version_test

import (
	"fmt"
	"math"
	"math/big"
	"slices"
	"testing"

	"bourse/api"
	"bourse/edit"
	"bourse/version"
)

// picked: the numbers that a Pick has.
func picked(t *testing.T, what string, v version.Version, level, choice int, upper, lower []uint64) {
	t.Helper()
	p, ok := v.Pick(level, choice)
	want(t, what, ok, true)
	want(t, what+": level", p.Level, level)
	list(t, what+": upper", numbers(p.Upper), upper...)
	list(t, what+": lower", numbers(p.Lower), lower...)
}

// nothing: false, and the zero Pick.
func nothing(t *testing.T, what string, v version.Version, level, choice int) {
	t.Helper()
	p, ok := v.Pick(level, choice)
	want(t, what, ok, false)
	want(t, what+": nothing beside it", p.Level == 0 && len(p.Upper) == 0 && len(p.Lower) == 0, true)
}

// choices: below 0, of all places, beyond them.
func choices() []int {
	return []int{math.MinInt, math.MinInt + 1, -1 << 32, -1000, -7, -6, -5, -4, -3, -2, -1, 0, 1, 2, 3, 4, 5, 6, 7, 8, 1000, 1 << 32, math.MaxInt - 1, math.MaxInt}
}

// place: that of a choice among so many, reckoned without an end.
func place(choice, count int) int {
	n := big.NewInt(int64(choice))
	if choice < 0 {
		n.Add(n, new(big.Int).Lsh(big.NewInt(1), 64))
	}
	return int(n.Mod(n, big.NewInt(int64(count))).Int64())
}

// TestPickNothing: P13.3, of no files, of the last level, of levels that there aren't.
func TestPickNothing(t *testing.T) {
	v := of(spans(40, "a z"), spans(30, "b y"), spans(20, "c x"), spans(10, "d w"))
	for _, choice := range choices() {
		for level := range api.Levels {
			nothing(t, fmt.Sprint("of no files, level ", level), version.Version{}, level, choice)
			w := copied(v)
			w.Levels[level] = nil
			nothing(t, fmt.Sprint("nothing on level ", level), w, level, choice)
		}
		nothing(t, "the last level", v, 3, choice)
		for _, level := range beyond() {
			nothing(t, fmt.Sprint("level ", level), v, level, choice)
		}
	}
}

// TestPickChoice: P13.3, the file at the place, on level 0 and on others.
func TestPickChoice(t *testing.T) {
	for count := 1; count < 8; count++ {
		l := spans(99, "a b", "d e", "g h", "j k", "m n", "p q", "s t")[:count]
		for _, choice := range choices() {
			wanted := l[place(choice, count)].Number
			for level := range api.Levels - 1 {
				picked(t, fmt.Sprintf("choice %d of %d", choice, count), on(level, l...), level, choice, []uint64{wanted}, nil)
			}
		}
	}
	l := spans(99, "a b", "d e", "g h")
	picked(t, "2^64 - 1 of three", on(1, l...), 1, -1, []uint64{99}, nil)
	picked(t, "2^64 - 2 of three", on(1, l...), 1, -2, []uint64{97}, nil)
}

// TestPickLower: P13.3, of the next level those that overlap the bounds of what is picked; others don't count.
func TestPickLower(t *testing.T) {
	for level := range api.Levels - 1 {
		v := of(spans(49, "a z"), spans(39, "a z"), spans(29, "a z"), spans(19, "a z"))
		v.Levels[level] = spans(99, "c e", "g g", "i m", "p p")
		v.Levels[level+1] = spans(89, "a b", "c c", "d d", "e f", "h h", "i i", "k l", "m n", "q z")
		for choice, lower := range [][]uint64{{88, 87, 86}, nil, {84, 83, 82}, nil} {
			picked(t, fmt.Sprint("level ", level), v, level, choice, []uint64{99 - uint64(choice)}, lower)
		}
		v.Levels[level+1] = spans(89, "a z")
		for choice := range 4 {
			picked(t, "one over all", v, level, choice, []uint64{99 - uint64(choice)}, []uint64{89})
		}
		v.Levels[level+1] = nil
		for choice := range 4 {
			picked(t, "none", v, level, choice, []uint64{99 - uint64(choice)}, nil)
		}
	}
	v := on(2, spans(9, "a c")...)
	v.Levels[3] = spans(5, "b d")
	p, _ := v.Pick(2, 0)
	list(t, "whole files", p.Upper, file(9, "a", "c"))
	list(t, "whole files", p.Lower, file(5, "b", "d"))
}

// TestPickGrows: P13.3, a level 0 in which what overlaps grows step by step, to either side and to both.
func TestPickGrows(t *testing.T) {
	for _, c := range []struct {
		what string
		zero []edit.File
		want [][]uint64 // by the choice
	}{
		{"apart", spans(9, "a b", "c d", "e f"), [][]uint64{{9}, {8}, {7}}},
		{"all the same", spans(9, "a b", "a b", "a b"), [][]uint64{{9, 8, 7}, {9, 8, 7}, {9, 8, 7}}},
		{"a chain that rises", spans(9, "a b", "b c", "c d", "d e"), [][]uint64{{9, 8, 7, 6}, {9, 8, 7, 6}, {9, 8, 7, 6}, {9, 8, 7, 6}}},
		{"a chain that falls", spans(9, "d e", "c d", "b c", "a b"), [][]uint64{{9, 8, 7, 6}, {9, 8, 7, 6}, {9, 8, 7, 6}, {9, 8, 7, 6}}},
		{"a chain from its middle", spans(9, "d e", "a b", "c d", "f g", "b c", "e f"), [][]uint64{{9, 8, 7, 6, 5, 4}, {9, 8, 7, 6, 5, 4}, {9, 8, 7, 6, 5, 4}, {9, 8, 7, 6, 5, 4}, {9, 8, 7, 6, 5, 4}, {9, 8, 7, 6, 5, 4}}},
		{"two chains", spans(9, "a c", "m p", "b d", "n q", "d f", "q z"), [][]uint64{{9, 7, 5}, {8, 6, 4}, {9, 7, 5}, {8, 6, 4}, {9, 7, 5}, {8, 6, 4}}},
		{"one over two that are apart", spans(9, "a b", "y z", "a z"), [][]uint64{{9, 8, 7}, {9, 8, 7}, {9, 8, 7}}},
		{"one between two chains, touching none", spans(9, "a c", "d\x00 d\x01", "b d", "e g"), [][]uint64{{9, 7}, {8}, {9, 7}, {6}}},
		{"one key joins two", spans(9, "a c", "e g", "c e", "h i"), [][]uint64{{9, 8, 7}, {9, 8, 7}, {9, 8, 7}, {6}}},
	} {
		want(t, c.what+": right", on(0, c.zero...).Right(), true)
		for choice, upper := range c.want {
			picked(t, fmt.Sprint(c.what, ", choice ", choice), on(0, c.zero...), 0, choice, upper, nil)
		}
	}
	v := of(spans(9, "d e", "m n", "c d", "e f"), spans(5, "a b", "b\x00 c", "f z"), spans(2, "a z"))
	picked(t, "the lower ones by the bounds of all", v, 0, 0, []uint64{9, 7, 6}, []uint64{4, 3})
	picked(t, "the lower ones of one alone", v, 0, 1, []uint64{8}, []uint64{3})
	w := of(nil, spans(9, "a b", "c d", "e f"), spans(5, "a c", "d e"))
	picked(t, "other levels don't grow", w, 1, 0, []uint64{9}, []uint64{5})
	picked(t, "other levels don't grow", w, 1, 1, []uint64{8}, []uint64{5, 4})
}

// TestPickLongChain: P13.3, each step reaches one file more.
func TestPickLongChain(t *testing.T) {
	at := func(n int) string { return fmt.Sprintf("%05d", n) }
	for _, turned := range []bool{false, true} {
		var l []edit.File
		for i := range 400 {
			if turned {
				i = 399 - i
			}
			l = append(l, file(uint64(1000-len(l)), at(i), at(i+1)))
		}
		for _, choice := range []int{0, 1, 200, 398, 399} {
			p, _ := on(0, l...).Pick(0, choice)
			list(t, "all", p.Upper, l...)
		}
		cut := slices.Delete(slices.Clone(l), 150, 151)
		for choice, wanted := range map[int][]edit.File{0: cut[:150], 149: cut[:150], 150: cut[150:], 398: cut[150:]} {
			p, _ := on(0, cut...).Pick(0, choice)
			list(t, "those of one side", p.Upper, wanted...)
		}
	}
}

// TestPickWrong: P1, of versions that aren't right it ends, too.
func TestPickWrong(t *testing.T) {
	for _, l := range [][]edit.File{{{}}, {{}, {}}, spans(9, "b a"), spans(9, "z a", "b c", "c d"), spans(9, "b c", "z a", "c d"), {file(1, "", "b"), file(2, "b", "")}} {
		for level := -1; level <= api.Levels; level++ {
			for _, choice := range choices() {
				v := of(l, l, l, l)
				_, ok := v.Pick(level, choice)
				want(t, "Pick", ok, level >= 0 && level < 3)
			}
		}
	}
}
