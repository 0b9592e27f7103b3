package merge_test

import (
	"fmt"
	"math"
	"slices"
	"testing"

	"bourse/api"
	"bourse/memo"
	"bourse/merge"
)

// sees: what is seen of entries that rise, and of the same ones turned round.
func sees(t *testing.T, what string, l []api.Entry, at uint64, wanted ...api.Pair) {
	t.Helper()
	row(t, fmt.Sprint(what, ": See at ", at), merge.See(of(l...), at), wanted...)
	row(t, fmt.Sprint(what, ": SeeDown at ", at), merge.SeeDown(of(turned(l)...), at), turned(wanted)...)
}

// seen: what is seen, told once more: key by key, the newest entry up to the number.
func seen(l []api.Entry, at uint64) []api.Pair {
	var all []api.Pair
	for _, e := range l {
		newest := slices.IndexFunc(l, func(x api.Entry) bool { return x.Key == e.Key && x.Seq <= at })
		if newest >= 0 && l[newest] == e && e.Kind == api.Put {
			all = append(all, api.Pair{Key: e.Key, Value: e.Value})
		}
	}
	return all
}

// TestSee: P15.2, by hand, at, below and above each number.
func TestSee(t *testing.T) {
	l := []api.Entry{put("a", 5, "five"), put("a", 2, "two"), del("b", 3), put("b", 1, "old"), put("c", 4, ""), del("d", 7), del("e", 6), put("e", 6, "beside")}
	for at, wanted := range [][]api.Pair{
		0: nil,
		1: pairs("b", "old"),
		2: pairs("a", "two", "b", "old"),
		3: pairs("a", "two"),
		4: pairs("a", "two", "c", ""),
		5: pairs("a", "five", "c", ""),
		6: pairs("a", "five", "c", ""),
		7: pairs("a", "five", "c", ""),
		8: pairs("a", "five", "c", ""),
	} {
		sees(t, "by hand", l, uint64(at), wanted...)
	}
	sees(t, "by hand", l, math.MaxUint64, pairs("a", "five", "c", "")...)
	sees(t, "nothing", nil, 9)
	sees(t, "a Delete alone", []api.Entry{del("a", 1)}, 9)
	sees(t, "a Delete that has a value", []api.Entry{{Key: "a", Seq: 2, Kind: api.Delete, Value: "x"}, put("a", 1, "y")}, 9)
	sees(t, "Puts alone", []api.Entry{put("a", 1, "1"), put("b", 1, "2")}, 1, pairs("a", "1", "b", "2")...)
}

// TestSeeEnds: P15.2, numbers at their ends, and keys of all sorts.
func TestSeeEnds(t *testing.T) {
	l := []api.Entry{put("a", math.MaxUint64, "most"), put("a", 1<<63, "half"), put("a", top, "top"), put("a", 0, "none")}
	for _, x := range []struct {
		at    uint64
		value string
	}{{0, "none"}, {1, "none"}, {top - 1, "none"}, {top, "top"}, {1<<63 - 1, "top"}, {1 << 63, "half"}, {math.MaxUint64 - 1, "half"}, {math.MaxUint64, "most"}} {
		sees(t, "numbers", l, x.at, pairs("a", x.value)...)
	}
	keys := []api.Entry{put("", 3, "1"), put("", 1, "0"), put("\x00", 2, "2"), put("\x00\x00", 1, "3"), put("a", 1, "4"), put("a\x00", 2, "5"), put("aa", 1, "6"), put("\xff", 1, "7")}
	sees(t, "keys", keys, 9, pairs("", "1", "\x00", "2", "\x00\x00", "3", "a", "4", "a\x00", "5", "aa", "6", "\xff", "7")...)
	sees(t, "keys", keys, 1, pairs("", "0", "\x00\x00", "3", "a", "4", "aa", "6", "\xff", "7")...)
	sees(t, "keys", keys, 0)
}

// TestSeeOtherKinds: P15.2, of entries of any other kind than Put nothing, nor of what stands behind them.
func TestSeeOtherKinds(t *testing.T) {
	for _, kind := range []int{math.MinInt, -1, 0, 2, 3, 255, 257, math.MaxInt} {
		what := fmt.Sprint("the kind ", kind)
		l := []api.Entry{put("a", 1, "ahead"), {Key: "b", Seq: 2, Kind: kind, Value: "x"}, put("b", 1, "older"), put("c", 1, "behind")}
		sees(t, what, l, 2, pairs("a", "ahead", "c", "behind")...)
		sees(t, what, l, 1, pairs("a", "ahead", "b", "older", "c", "behind")...)
		sees(t, what, l[1:2], 2)
	}
	// Of one number the greater kind stands ahead.
	sees(t, "Delete and Put", []api.Entry{del("a", 1), put("a", 1, "x")}, 1)
	sees(t, "Put and 0", []api.Entry{put("a", 1, "x"), {Key: "a", Seq: 1}}, 1, pairs("a", "x")...)
}

// TestSeeByDice: P15.2, entries as they come: as told once more, and as a memo's Get tells.
func TestSeeByDice(t *testing.T) {
	d := dice(2)
	for range 1000 {
		l := d.entries(40, "")
		m := memo.New()
		for _, e := range l {
			want(t, "Add", m.Add(e, 1+d.below(12)), api.OK)
		}
		for at := range uint64(9) {
			wanted := seen(l, at)
			sees(t, "by dice", l, at, wanted...)
			row(t, "of a memo", merge.See(m.All(), at), wanted...)
			row(t, "of a memo, falling", merge.SeeDown(m.Down(""), at), turned(wanted)...)
			for _, e := range l {
				x, ok := m.Get(e.Key, at)
				there := slices.Contains(wanted, api.Pair{Key: x.Key, Value: x.Value})
				want(t, "as Get", there, ok && x.Kind == api.Put)
			}
		}
		if t.Failed() {
			return
		}
	}
}

// TestSeeStays: P15.2, what is seen at a number stays so, whatever greater numbers come.
func TestSeeStays(t *testing.T) {
	l := []api.Entry{put("a", 5, "x"), del("b", 4), put("c", 5, "y")}
	before := slices.Collect(merge.See(of(l...), 5))
	more := merge.Up(of(l...), of(del("a", 6), put("b", 7, "z"), put("bb", 8, "z"), del("c", 9)))
	row(t, "at 5", merge.See(more, 5), before...)
	row(t, "at 9", merge.See(more, 9), pairs("b", "z", "bb", "z")...)
}

// TestLeftSeen: rows of what is seen may be left anywhere; so are the ones that they go through.
func TestLeftSeen(t *testing.T) {
	for n := range 4 {
		for _, down := range []bool{false, true} {
			a := &asked{l: []api.Entry{put("a", 2, ""), put("a", 1, ""), put("b", 1, ""), del("c", 1), put("d", 1, ""), put("e", 1, "")}}
			r := merge.See(a.row, 9)
			if down {
				slices.Reverse(a.l)
				r = merge.SeeDown(a.row, 9)
			}
			r = merge.Within(r, "", "")
			want(t, "begun ahead of all", a.begun, 0)
			k := 0
			for range r {
				if k++; k > n {
					break
				}
			}
			want(t, "given", k, n+1)
			want(t, "begun", a.begun, 1)
			want(t, "ended", a.ended, 1)
			want(t, fmt.Sprintf("not gone through to its end, down %v", down), a.things <= len(a.l) || down && n == 3, true)
		}
	}
}

// TestWithin: P15.2, all bounds at, between and beyond keys, of rows that rise, that fall, and of others.
func TestWithin(t *testing.T) {
	keys := []string{"", "\x00", "a", "a\x00", "aa", "b", "b\xff", "c", "\xff", "\xff\xff"}
	var rising []api.Pair
	for i, k := range keys {
		rising = append(rising, api.Pair{Key: k, Value: fmt.Sprint(i)})
	}
	mixed := slices.Concat(rising[5:], rising[:5], rising[3:7])
	bounds := append([]string{"A", "ab", "b\xfe", "zz", "\xff\xff\xff"}, keys...)
	for _, l := range [][]api.Pair{rising, turned(rising), mixed, nil} {
		for _, from := range bounds {
			for _, to := range bounds {
				var wanted []api.Pair
				for _, p := range l {
					if !(p.Key < from) && (to == "" || p.Key < to) {
						wanted = append(wanted, p)
					}
				}
				row(t, fmt.Sprintf("Within(%q, %q)", from, to), merge.Within(slices.Values(l), from, to), wanted...)
			}
		}
	}
}

// TestWithinByHand: P15.2, the lower bound is within, the upper one isn't; the empty one is no end.
func TestWithinByHand(t *testing.T) {
	l := pairs("a", "1", "b", "2", "c", "3", "d", "4")
	for _, x := range []struct {
		from, to string
		wanted   []api.Pair
	}{
		{"", "", l},
		{"a", "", l},
		{"b", "", l[1:]},
		{"bb", "", l[2:]},
		{"e", "", nil},
		{"", "a", nil},
		{"", "aa", l[:1]},
		{"", "d", l[:3]},
		{"", "e", l},
		{"b", "d", l[1:3]},
		{"b", "c", l[1:2]},
		{"b", "b", nil},
		{"d", "b", nil},
	} {
		what := fmt.Sprintf("Within(%q, %q)", x.from, x.to)
		row(t, what, merge.Within(slices.Values(l), x.from, x.to), x.wanted...)
		row(t, what+", falling", merge.Within(slices.Values(turned(l)), x.from, x.to), turned(x.wanted)...)
		n := 0
		for range merge.Within(slices.Values(l), x.from, x.to) {
			n++
			break
		}
		want(t, what+": left", n, min(1, len(x.wanted)))
	}
}
