package season_test

import (
	"fmt"
	"math"
	"slices"
	"strings"
	"testing"

	"bourse/api"
	"bourse/season"
)

const (
	most = 1 << 50 // of a row's sizes together
	far  = 1 << 53 // of a sum, either way
)

// want: a test fails, if something is another thing than was wanted.
func want[T comparable](t *testing.T, what string, got, wanted T) {
	t.Helper()
	if got != wanted {
		t.Errorf("%s: %v, wanted %v", what, got, wanted)
	}
}

// made: waves that there must be.
func made(t *testing.T, l []int64) season.Wave {
	t.Helper()
	w, ok := season.Of(l)
	want(t, fmt.Sprint(l, " has waves"), ok, true)
	return w
}

// TestTurn is P33.1's first half.
func TestTurn(t *testing.T) {
	for k, wanted := range map[int]complex128{
		0: 1, 1: 1i, 2: -1, 3: -1i, 4: 1, 5: 1i, 6: -1, 7: -1i, 8: 1,
		-1: -1i, -2: -1, -3: 1i, -4: 1, -5: -1i, -6: -1, -7: 1i,
		1000003: -1i, -1000003: 1i, 1 << 40: 1, 1<<40 + 1: 1i,
		math.MaxInt: -1i, math.MaxInt - 1: -1, math.MinInt: 1, math.MinInt + 1: 1i, math.MinInt + 2: -1,
	} {
		want(t, fmt.Sprintf("Turn(%d)", k), season.Turn(k), wanted)
	}
}

// TestTurns: each is the one ahead of it times i.
func TestTurns(t *testing.T) {
	for k := -50; k < 50; k++ {
		want(t, fmt.Sprintf("Turn(%d)", k), season.Turn(k), season.Turn(k-1)*1i)
	}
}

// TestOf is P33.1: rows whose waves are known by hand.
func TestOf(t *testing.T) {
	for _, c := range []struct {
		row  []int64
		wave season.Wave
	}{
		{nil, season.Wave{}},
		{[]int64{}, season.Wave{}},
		{[]int64{0}, season.Wave{}},
		{[]int64{7}, season.Wave{7, 7, 7, 7}},
		{[]int64{-7}, season.Wave{-7, -7, -7, -7}},
		{[]int64{0, 1}, season.Wave{1, -1i, -1, 1i}},
		{[]int64{0, 0, 1}, season.Wave{1, -1, 1, -1}},
		{[]int64{0, 0, 0, 1}, season.Wave{1, 1i, -1, -1i}},
		{[]int64{0, 0, 0, 0, 1}, season.Wave{1, 1, 1, 1}},
		{[]int64{0, 0, 0, 0, 0, 1}, season.Wave{1, -1i, -1, 1i}},
		{[]int64{1, 2}, season.Wave{3, 1 - 2i, -1, 1 + 2i}},
		{[]int64{1, 2, 3, 4}, season.Wave{10, -2 + 2i, -2, -2 - 2i}},
		{[]int64{1, 2, 3, 4, 5}, season.Wave{15, 3 + 2i, 3, 3 - 2i}},
		{[]int64{5, -3, 2, -8, 1, 4}, season.Wave{1, 4 - 9i, 15, 4 + 9i}},
		{[]int64{1, 1, 1, 1}, season.Wave{4}},
		{[]int64{1, -1, 1, -1}, season.Wave{2: 4}},
		{[]int64{1, 0, -1, 0}, season.Wave{0, 2, 0, 2}},
		{[]int64{1, 1, 1, 1, -1, -1, -1, -1}, season.Wave{}},
	} {
		want(t, fmt.Sprint("the waves of ", c.row), made(t, c.row), c.wave)
	}
}

// TestOfMost is P33.1: sizes that come to as much as may be, and to more.
func TestOfMost(t *testing.T) {
	for _, c := range []struct {
		row  []int64
		wave season.Wave
		ok   bool
	}{
		{[]int64{most}, season.Wave{most, most, most, most}, true},
		{[]int64{-most}, season.Wave{-most, -most, -most, -most}, true},
		{[]int64{0, most}, season.Wave{most, -most * 1i, -most, most * 1i}, true},
		{[]int64{most - 1, 1}, season.Wave{most, most - 1 - 1i, most - 2, most - 1 + 1i}, true},
		{[]int64{most - 1, -1}, season.Wave{most - 2, most - 1 + 1i, most, most - 1 - 1i}, true},
		{[]int64{most / 2, 0, 0, 0, most / 2, 0}, season.Wave{most, most, most, most}, true},
		{[]int64{most / 2, 0, 0, 0, -most / 2, 0}, season.Wave{}, true},
		{[]int64{most + 1}, season.Wave{}, false},
		{[]int64{-most - 1}, season.Wave{}, false},
		{[]int64{most, 1}, season.Wave{}, false},
		{[]int64{most, -1}, season.Wave{}, false},
		{[]int64{-most, 1}, season.Wave{}, false},
		{[]int64{-1, 0, 0, 0, 0, 0, most}, season.Wave{}, false},
		{[]int64{most / 2, most / 2, 1}, season.Wave{}, false},
		{[]int64{most / 2, -most / 2, 1}, season.Wave{}, false},
		{[]int64{1, 2, 3, most, 0, 0, 0}, season.Wave{}, false},
		{[]int64{math.MaxInt64}, season.Wave{}, false},
		{[]int64{math.MinInt64}, season.Wave{}, false},
		{[]int64{math.MinInt64, math.MinInt64}, season.Wave{}, false},
		{[]int64{math.MaxInt64, math.MinInt64}, season.Wave{}, false},
		{[]int64{math.MaxInt64, math.MaxInt64, 2}, season.Wave{}, false},
		{[]int64{math.MinInt64 + 1, math.MaxInt64, math.MinInt64, math.MinInt64, 2}, season.Wave{}, false},
		{[]int64{1, math.MinInt64}, season.Wave{}, false},
	} {
		w, ok := season.Of(c.row)
		want(t, fmt.Sprint("the waves of ", c.row), w, c.wave)
		want(t, fmt.Sprint("are there waves of ", c.row), ok, c.ok)
	}
}

// TestOfMany: as many numbers as may be, and one more.
func TestOfMany(t *testing.T) {
	l := slices.Repeat([]int64{1 << 30}, 1<<20)
	want(t, "as much as may be", made(t, l), season.Wave{most})
	_, ok := season.Of(append(l, 1))
	want(t, "one more", ok, false)
	for i := range l {
		l[i] = -l[i]
	}
	want(t, "below 0", made(t, l), season.Wave{-most})
}

// TestTrades is P33.1's last part: of a trade its size alone counts.
func TestTrades(t *testing.T) {
	w, ok := season.Trades([]api.Trade{{Maker: 9, Taker: 8, Price: 77, Size: 1}, {Maker: 1, Price: most, Size: 2}})
	want(t, "waves", w, season.Wave{3, 1 - 2i, -1, 1 + 2i})
	want(t, "there are some", ok, true)
	w, ok = season.Trades(nil)
	want(t, "of none", w, season.Wave{})
	want(t, "of none there are", ok, true)
	w, ok = season.Trades([]api.Trade{{Size: most}, {Size: -1}})
	want(t, "too much", w, season.Wave{})
	want(t, "too much: there are none", ok, false)
	w, ok = season.Trades([]api.Trade{{Size: math.MinInt64}, {Size: math.MinInt64}})
	want(t, "far too much", w, season.Wave{})
	want(t, "far too much: there are none", ok, false)
	w, ok = season.Trades([]api.Trade{{Size: -5}, {Size: 2}, {Size: 1}, {Size: 1}, {Size: 4}})
	want(t, "below 0", w, season.Wave{3, -2 - 1i, -3, -2 + 1i})
	want(t, "below 0 there are", ok, true)
}

// TestStays: a list that is handed in, and its spare room, stay as they are.
func TestStays(t *testing.T) {
	l := []int64{4, 5, 6, 7, 8, 9}
	trades := []api.Trade{{Size: 1}, {Size: 2, Price: 3}, {Size: 4}}
	numbers, kept := slices.Clone(l), slices.Clone(trades)
	season.Of(l[:4])
	season.Of(l[:0])
	season.Trades(trades[:2])
	want(t, "numbers stay", slices.Equal(l, numbers), true)
	want(t, "trades stay", slices.Equal(trades, kept), true)
}

// TestZeros: a 0 has no sign, as a text, too.
func TestZeros(t *testing.T) {
	seen := fmt.Sprint(season.Turn(0), season.Turn(1), season.Turn(2), season.Turn(3), season.Turn(-2))
	want(t, "turns", seen, "(1+0i) (0+1i) (-1+0i) (0-1i) (-1+0i)")
	for _, l := range [][]int64{nil, {-1}, {0, -1}, {1, -1}, {-1, 2, -1, 2}, {-2, 0, 0, -2}} {
		w := made(t, l)
		for n := range 4 {
			if s := fmt.Sprint(w.Later(n), w.Plus(w.Later(n+1))); strings.Contains(s, "-0") {
				t.Errorf("%v, later by %d: %s", l, n, s)
			}
		}
	}
}
