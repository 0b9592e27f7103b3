package merge_test

import (
	"fmt"
	"math"
	"slices"
	"testing"

	"bourse/api"
	"bourse/merge"
)

// needed: what Drop keeps, told once more: key by key, first who is seen, then whether the oldest of these is a Delete.
func needed(l []api.Entry, numbers []uint64, bottom bool) []api.Entry {
	var all []api.Entry
	for len(l) > 0 {
		n := slices.IndexFunc(l, func(e api.Entry) bool { return e.Key != l[0].Key })
		if n < 0 {
			n = len(l)
		}
		kept := map[int]bool{0: true}
		for _, at := range numbers {
			if i := slices.IndexFunc(l[:n], func(e api.Entry) bool { return e.Seq <= at }); i >= 0 {
				kept[i] = true
			}
		}
		var some []api.Entry
		for i, e := range l[:n] {
			if kept[i] {
				some = append(some, e)
			}
		}
		if last := len(some) - 1; bottom && some[last].Kind == api.Delete {
			some = some[:last]
		}
		all, l = append(all, some...), l[n:]
	}
	return all
}

// drops: what Drop keeps; and P15.4, what is seen is the same behind it.
func drops(t *testing.T, l []api.Entry, numbers []uint64, bottom bool, wanted ...api.Entry) {
	t.Helper()
	what := fmt.Sprintf("%v, the numbers %v, bottom %v", l, numbers, bottom)
	r := merge.Drop(of(l...), numbers, bottom)
	row(t, what, r, wanted...)
	for _, at := range append([]uint64{math.MaxUint64}, numbers...) {
		row(t, fmt.Sprint(what, ": seen at ", at), merge.See(r, at), seen(l, at)...)
		row(t, fmt.Sprint(what, ": seen at ", at, ", falling"), merge.SeeDown(of(turned(slices.Collect(r))...), at), turned(seen(l, at))...)
	}
}

// TestDrop: P15.3, by hand.
func TestDrop(t *testing.T) {
	none := []uint64(nil)
	for _, bottom := range []bool{false, true} {
		drops(t, nil, none, bottom)
		drops(t, nil, []uint64{1, 2}, bottom)
		a2, a1 := put("a", 2, "2"), put("a", 1, "1")
		drops(t, []api.Entry{a2, a1}, none, bottom, a2)
		drops(t, []api.Entry{a2, a1}, []uint64{0}, bottom, a2)
		drops(t, []api.Entry{a2, a1}, []uint64{1}, bottom, a2, a1)
		drops(t, []api.Entry{a2, a1}, []uint64{2}, bottom, a2)
		drops(t, []api.Entry{a2, a1}, []uint64{3, math.MaxUint64}, bottom, a2)
		drops(t, []api.Entry{a1}, none, bottom, a1)
		drops(t, []api.Entry{put("a", 0, "")}, none, bottom, put("a", 0, ""))
		// Between two numbers only one is seen, however many numbers there are.
		l := []api.Entry{put("k", 9, ""), put("k", 7, ""), put("k", 5, ""), put("k", 3, ""), put("k", 1, "")}
		drops(t, l, []uint64{3, 4}, bottom, l[0], l[3])
		drops(t, l, []uint64{4, 8}, bottom, l[0], l[1], l[3])
		drops(t, l, []uint64{0, 1, 2, 3, 4, 5, 6, 7, 8, 9, 10}, bottom, l...)
		drops(t, l, []uint64{1, 9}, bottom, l[0], l[4])
		// Each key by itself; keys that begin alike are others.
		l = []api.Entry{put("", 2, ""), put("", 1, ""), put("\x00", 2, ""), put("a", 4, ""), put("a", 1, ""), put("a\x00", 3, ""), put("aa", 2, "")}
		drops(t, l, none, bottom, l[0], l[2], l[3], l[5], l[6])
		drops(t, l, []uint64{1}, bottom, l...)
	}
}

// TestDropDeletes: P15.3, a Delete goes where nothing stands below, and it is the oldest that is kept of its key.
func TestDropDeletes(t *testing.T) {
	d, p := del("a", 3), put("a", 1, "1")
	none := []uint64(nil)
	drops(t, []api.Entry{d}, none, false, d)
	drops(t, []api.Entry{d}, none, true)
	drops(t, []api.Entry{d, p}, none, false, d)
	drops(t, []api.Entry{d, p}, none, true)
	drops(t, []api.Entry{d, p}, []uint64{1}, false, d, p)
	drops(t, []api.Entry{d, p}, []uint64{1}, true, d, p)
	drops(t, []api.Entry{d, p}, []uint64{2}, true, d, p)
	drops(t, []api.Entry{d, p}, []uint64{3}, true)
	drops(t, []api.Entry{d, p}, []uint64{0}, true)
	newest := put("a", 5, "5")
	drops(t, []api.Entry{newest, d, p}, none, true, newest)
	drops(t, []api.Entry{newest, d, p}, []uint64{3}, false, newest, d)
	drops(t, []api.Entry{newest, d, p}, []uint64{3}, true, newest)
	drops(t, []api.Entry{newest, d, p}, []uint64{4}, true, newest)
	drops(t, []api.Entry{newest, d, p}, []uint64{1, 4}, true, newest, d, p)
	drops(t, []api.Entry{newest, d, p}, []uint64{1}, true, newest, p)
	// Of two Deletes the oldest one alone is the oldest one that is kept.
	both := []api.Entry{newest, del("a", 3), del("a", 2)}
	drops(t, both, []uint64{2, 3}, true, both[:2]...)
	drops(t, both, []uint64{3}, true, newest)
	drops(t, both, []uint64{2}, true, newest)
	drops(t, both, []uint64{2, 3}, false, both...)
	drops(t, both[1:], []uint64{2}, true, both[1])
	// Those of other keys tell nothing of it.
	keys := []api.Entry{del("a", 1), del("b", 1), put("c", 2, ""), del("c", 1), put("d", 1, ""), del("e", 2), put("e", 1, "")}
	drops(t, keys, []uint64{1}, true, keys[2], keys[4], keys[5], keys[6])
	drops(t, keys, none, true, keys[2], keys[4])
	drops(t, keys, none, false, keys[0], keys[1], keys[2], keys[4], keys[5])
}

// TestDropKinds: P15.3, other kinds are no Deletes; of one number the greater kind counts.
func TestDropKinds(t *testing.T) {
	for _, kind := range []int{math.MinInt, 0, 3, 255, math.MaxInt} {
		e := api.Entry{Key: "a", Seq: 2, Kind: kind}
		drops(t, []api.Entry{e, put("a", 1, "")}, nil, true, e)
		drops(t, []api.Entry{e}, []uint64{2}, true, e)
	}
	l := []api.Entry{del("a", 2), put("a", 2, ""), del("a", 1), put("a", 1, "")}
	drops(t, l, []uint64{1}, false, l[0], l[2])
	drops(t, l, []uint64{1}, true, l[0])
	drops(t, l, []uint64{2}, true)
	drops(t, l, []uint64{2}, false, l[0])
	most := []api.Entry{put("a", math.MaxUint64, ""), put("a", math.MaxUint64-1, ""), put("a", 0, "")}
	drops(t, most, []uint64{math.MaxUint64}, true, most[0])
	drops(t, most, []uint64{math.MaxUint64 - 1}, true, most[:2]...)
	drops(t, most, []uint64{math.MaxUint64 - 2}, true, most[0], most[2])
}

// TestDropAll: P15.3 and P15.4, all keys of at most four entries, with all numbers, between neighbours.
func TestDropAll(t *testing.T) {
	for ways := range 81 {
		l := []api.Entry{put("0", 3, ""), del("0", 2)}
		for seq, rest := uint64(4), ways; seq > 0; seq, rest = seq-1, rest/3 {
			if kind := rest % 3; kind > 0 {
				l = append(l, api.Entry{Key: "k", Seq: seq, Kind: kind})
			}
		}
		l = append(l, del("l", 2), put("l", 1, ""))
		for some := range 1 << 6 {
			var numbers []uint64
			for at := range uint64(6) {
				if some>>at&1 == 1 {
					numbers = append(numbers, at)
				}
			}
			drops(t, l, numbers, false, needed(l, numbers, false)...)
			drops(t, l, numbers, true, needed(l, numbers, true)...)
		}
		if t.Failed() {
			return
		}
	}
}

// TestDropByDice: P15.3 and P15.4, entries and numbers as they come; Drop of what Drop kept is the same without the bottom.
func TestDropByDice(t *testing.T) {
	d := dice(3)
	for range 1000 {
		l := d.entries(40, "")
		var numbers []uint64
		for range d.below(5) {
			numbers = append(numbers, uint64(d.below(9)))
		}
		slices.Sort(numbers)
		for _, bottom := range []bool{false, true} {
			drops(t, l, numbers, bottom, needed(l, numbers, bottom)...)
		}
		kept := merge.Drop(of(l...), numbers, false)
		row(t, "once more", merge.Drop(kept, numbers, false), slices.Collect(kept)...)
		if t.Failed() {
			return
		}
	}
}

// TestDropNumbers: the numbers that are handed in are neither changed nor kept; told twice they say the same, as in another order.
func TestDropNumbers(t *testing.T) {
	l := []api.Entry{put("a", 5, ""), put("a", 3, ""), put("a", 1, ""), put("b", 4, "")}
	numbers := []uint64{1, 3, 9}[:2]
	r := merge.Drop(of(l...), numbers, true)
	row(t, "kept", r, l...)
	row(t, "the numbers", slices.Values(numbers[:3]), 1, 3, 9)
	clear(numbers)
	row(t, "kept, behind a change", r, l...)
	mixed := []uint64{3, 1, 3}
	row(t, "in another order", merge.Drop(of(l...), mixed, false), l...)
	row(t, "these numbers", slices.Values(mixed), 3, 1, 3)
}

// TestLeftDropped: it may be left anywhere; so is the row that it goes through.
func TestLeftDropped(t *testing.T) {
	for _, bottom := range []bool{false, true} {
		for n := range 6 {
			a := &asked{l: []api.Entry{put("a", 2, ""), put("a", 1, ""), put("b", 2, ""), del("b", 1), put("c", 1, ""), del("d", 2), put("d", 1, ""), put("e", 1, "")}}
			r := merge.Drop(a.row, []uint64{1}, bottom)
			want(t, "begun ahead of all", a.begun, 0)
			k := 0
			for range r {
				if k++; k > n {
					break
				}
			}
			want(t, "given", k, n+1)
			want(t, "begun", a.begun, 1)
			want(t, "ended", a.ended, 1)
			want(t, "not gone through to its end", a.things < len(a.l), true)
		}
	}
}
