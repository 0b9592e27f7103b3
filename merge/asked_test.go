package merge_test

import (
	"fmt"
	"iter"
	"runtime"
	"slices"
	"testing"

	"bourse/api"
	"bourse/merge"
)

// asked: a row that counts what is done to it.
type asked struct {
	l      []api.Entry
	begun  int // how often it was begun
	things int // how many it was asked for, its end too
	ended  int // how often it ended
}

func (a *asked) row(yield func(api.Entry) bool) {
	a.begun++
	defer func() { a.ended++ }()
	for _, e := range a.l {
		a.things++
		if !yield(e) {
			return
		}
	}
	a.things++
}

// rising: so many rows whose entries overlap; the one of place r has every (r+1)th of 12 numbers.
func rising(n int) []*asked {
	var all []*asked
	for r := range n {
		a := &asked{}
		for i := 0; i < 12; i += r + 1 {
			a.l = append(a.l, put(fmt.Sprintf("%02d", i), 1, fmt.Sprint(r)))
		}
		all = append(all, a)
	}
	return all
}

// merged: Up of rows; or Down of them turned round.
func merged(all []*asked, down bool) iter.Seq[api.Entry] {
	var l []iter.Seq[api.Entry]
	for _, a := range all {
		if down {
			slices.Reverse(a.l)
		}
		l = append(l, a.row)
	}
	if down {
		return merge.Down(l...)
	}
	return merge.Up(l...)
}

// through: how many of a row's entries are given or passed over behind some that were given.
func through(a *asked, given []api.Entry) int {
	n := 0
	for _, e := range a.l {
		if slices.ContainsFunc(given, func(g api.Entry) bool { return order(e, g) == 0 }) {
			n++
		}
	}
	return n
}

// TestAskedInTime: P15.1, each row is asked for its next thing only when the one ahead was given.
func TestAskedInTime(t *testing.T) {
	for _, down := range []bool{false, true} {
		all := rising(4)
		r := merged(all, down)
		for i, a := range all {
			want(t, fmt.Sprint("nobody goes through it: the row ", i), a.begun, 0)
		}
		var given []api.Entry
		for e := range r {
			for i, a := range all {
				want(t, fmt.Sprintf("ahead of %v: asked of the row %d", e, i), a.things, min(through(a, given), len(a.l))+1)
				want(t, "begun", a.begun, 1)
			}
			given = append(given, e)
		}
		want(t, "all were given", len(given), 12)
		for _, a := range all {
			want(t, "asked at last", a.things, len(a.l)+1)
			want(t, "ended", a.ended, 1)
		}
	}
}

// TestLeft: P15.1, all are ended when the row is left, wherever that is, and asked for nothing more.
func TestLeft(t *testing.T) {
	for _, down := range []bool{false, true} {
		for n := range 12 {
			all := rising(3)
			var given []api.Entry
			things := 0
			for e := range merged(all, down) {
				if len(given) == n {
					things = all[0].things + all[1].things + all[2].things
					break
				}
				given = append(given, e)
			}
			what := fmt.Sprintf("left behind %d, down %v", n, down)
			want(t, what+": nothing more was asked", all[0].things+all[1].things+all[2].things, things)
			for i, a := range all {
				want(t, fmt.Sprint(what, ": ended, the row ", i), a.ended, 1)
				want(t, fmt.Sprint(what, ": begun, the row ", i), a.begun, 1)
			}
		}
	}
}

// TestLeftByPanic: P15.1, whoever goes through it may leave it by a panic, too.
func TestLeftByPanic(t *testing.T) {
	all := rising(3)
	func() {
		defer func() { want(t, "what was told", recover(), any("enough")) }()
		for range merged(all, false) {
			panic("enough")
		}
	}()
	for _, a := range all {
		want(t, "begun", a.begun, 1)
		want(t, "ended", a.ended, 1)
	}
}

// TestRowThatPanics: what a row panics with comes to whoever goes through the rows as one; all are ended.
func TestRowThatPanics(t *testing.T) {
	for n := range 3 {
		all := rising(2)
		bad := func(yield func(api.Entry) bool) {
			for i := range n {
				if !yield(put(fmt.Sprint("0", 3*i), 1, "")) {
					return
				}
			}
			panic("no more")
		}
		given := 0
		func() {
			defer func() { want(t, "what was told", recover(), any("no more")) }()
			for range merge.Up(all[0].row, bad, all[1].row) {
				given++
			}
		}()
		want(t, "given ahead of it", given, []int{0, 1, 4}[n])
		for _, a := range all {
			want(t, "ended as often as begun", a.ended, a.begun)
		}
	}
}

// TestRowsWithoutEnd: P15.1, so rows needn't have an end, if they are left.
func TestRowsWithoutEnd(t *testing.T) {
	// a, aa, aaa ..
	endless := func(yield func(api.Entry) bool) {
		for key := "a"; yield(put(key, 1, "")); key += "a" {
		}
	}
	n := 0
	for e := range merge.Up(endless, of(del("aa", 1)), endless) {
		n++
		if n == 5 {
			want(t, "the fifth", e, put("aaaa", 1, ""))
			break
		}
	}
	want(t, "given", n, 5)
}

// TestWithinOneAnother: P15.1, a row that is gone through within itself, and by itself as several.
func TestWithinOneAnother(t *testing.T) {
	all := rising(2)
	r := merged(all, false)
	n := 0
	for a := range r {
		for b := range r {
			if order(b, a) > 0 {
				break
			}
			n++
		}
	}
	want(t, "pairs", n, 12*13/2)
	for _, a := range all {
		want(t, "begun", a.begun, 13)
		want(t, "ended", a.ended, 13)
	}
	l := slices.Collect(r)
	row(t, "of itself", merge.Up(r, r), l...)
	row(t, "of itself thrice, as rows of rows", merge.Up(merge.Up(r), merge.Up(r, r)), l...)
}

// TestLeftRowsOfRows: P15.1, rows of rows are ended, too.
func TestLeftRowsOfRows(t *testing.T) {
	all := rising(4)
	for e := range merge.Up(merged(all[:2], false), merged(all[2:], false)) {
		if e.Key == "05" {
			break
		}
	}
	for i, a := range all {
		want(t, fmt.Sprint("ended, the row ", i), a.ended, 1)
		want(t, fmt.Sprint("asked, the row ", i), a.things, []int{6, 4, 3, 3}[i])
	}
}

// TestNobodyIsLeft: P15.1, whatever a row is gone through by goes with it, be it left or not.
func TestNobodyIsLeft(t *testing.T) {
	before := runtime.NumGoroutine()
	for n := range 200 {
		for range merged(rising(5), n%2 == 0) {
			if n%3 == 0 {
				break
			}
		}
	}
	// Who has ended may be there for a moment yet.
	for range 1 << 20 {
		if runtime.NumGoroutine() <= before {
			return
		}
		runtime.Gosched()
	}
	t.Errorf("%d are left", runtime.NumGoroutine()-before)
}
