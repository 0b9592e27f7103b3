package season_test

import (
	"fmt"
	"math"
	"testing"

	"bourse/season"
)

// TestBack is P33.2: waves whose sums are known by hand.
func TestBack(t *testing.T) {
	for _, c := range []struct {
		wave season.Wave
		sums [4]int64
	}{
		{season.Wave{}, [4]int64{}},
		{season.Wave{4}, [4]int64{1, 1, 1, 1}},
		{season.Wave{-4}, [4]int64{-1, -1, -1, -1}},
		{season.Wave{2: 4}, [4]int64{1, -1, 1, -1}},
		{season.Wave{1: 2, 3: 2}, [4]int64{1, 0, -1, 0}},
		{season.Wave{1: 2i, 3: -2i}, [4]int64{0, -1, 0, 1}},
		{season.Wave{1: -2i, 3: 2i}, [4]int64{0, 1, 0, -1}},
		{season.Wave{1, 1, 1, 1}, [4]int64{1, 0, 0, 0}},
		{season.Wave{1, -1i, -1, 1i}, [4]int64{0, 1, 0, 0}},
		{season.Wave{1, -1, 1, -1}, [4]int64{0, 0, 1, 0}},
		{season.Wave{1, 1i, -1, -1i}, [4]int64{0, 0, 0, 1}},
		{season.Wave{3, 1 - 2i, -1, 1 + 2i}, [4]int64{1, 2, 0, 0}},
		{season.Wave{15, 3 + 2i, 3, 3 - 2i}, [4]int64{6, 2, 3, 4}},
		{season.Wave{1, 4 - 9i, 15, 4 + 9i}, [4]int64{6, 1, 2, -8}},
	} {
		sums, ok := c.wave.Back()
		want(t, fmt.Sprint("the sums of ", c.wave), sums, c.sums)
		want(t, fmt.Sprint("are there sums of ", c.wave), ok, true)
	}
}

// TestBackNone is P33.2: parts that aren't whole, not even at one place; imaginary parts.
func TestBackNone(t *testing.T) {
	inf := math.Inf(1)
	for _, w := range []season.Wave{
		{1}, {2}, {3}, {5}, {-1}, {-2}, {-6},
		{0, 1, 0, 1},            // halves
		{0, 0, 0, 4},            // i and -i at two of the places
		{0, 4, 0, 0},            // likewise
		{4, 4, 4, 4i},           // likewise
		{4i}, {-4i}, {0, 0, 4i}, // imaginary everywhere
		{4i, 4i, 4i, 4i},          // imaginary at the first place alone
		{1i, 1, -1i, -1},          // at the second one alone
		{1i, -1i, 1i, -1i},        // at the third one alone
		{1i, -1, -1i, 1},          // at the last one alone
		{2, 0, 2, 1},              // a quarter too much
		{4, 1e-9}, {4, 0, 1e-300}, // as good as whole
		{4 + 1e-300i}, {0, 0, 5e-324}, {5e-324},
		{0.5, 0.5, 0.5, 0.5}, {2.5, 1.5}, {3.75, 0, 0.25},
		{3, 1 - 2i, -1, 1 + 2.5i}, {3, 1 - 2i, -1.5, 1 + 2i}, {3.5, 1 - 2i, -1, 1 + 2i},
		{3, 1 + 2i, -1, 1 + 2i}, {3, 2 - 2i, -1, 1 + 2i},
		{complex(inf, 0)}, {complex(-inf, 0)}, {complex(0, inf)}, {0, complex(inf, inf), 0, complex(-inf, 0)},
		{complex(math.NaN(), 0)}, {0, 0, 0, complex(4, math.NaN())},
		{1e300}, {1e300, 1e300, 1e300, 1e300}, {math.MaxFloat64, 0, math.MaxFloat64},
	} {
		sums, ok := w.Back()
		want(t, fmt.Sprint("the sums of ", w), sums, [4]int64{})
		want(t, fmt.Sprint("are there sums of ", w), ok, false)
	}
}

// TestBackFar is P33.2: sums as far as may be, and farther.
func TestBackFar(t *testing.T) {
	for _, c := range []struct {
		wave season.Wave
		sums [4]int64
		ok   bool
	}{
		{season.Wave{far, far, far, far}, [4]int64{far, 0, 0, 0}, true},
		{season.Wave{-far, -far, -far, -far}, [4]int64{-far, 0, 0, 0}, true},
		{season.Wave{far, -far, far, -far}, [4]int64{0, 0, far, 0}, true},
		{season.Wave{far, far * 1i, -far, -far * 1i}, [4]int64{0, 0, 0, far}, true},
		{season.Wave{far - 1, far - 1, far - 1, far - 1}, [4]int64{far - 1, 0, 0, 0}, true},
		{season.Wave{1 - far, 1 - far, 1 - far, 1 - far}, [4]int64{1 - far, 0, 0, 0}, true},
		{season.Wave{far, far - 1 - 1i, far - 2, far - 1 + 1i}, [4]int64{far - 1, 1, 0, 0}, true},
		{season.Wave{4 * far}, [4]int64{far, far, far, far}, true},
		{season.Wave{-4 * far}, [4]int64{-far, -far, -far, -far}, true},
		{season.Wave{2: 4 * far}, [4]int64{far, -far, far, -far}, true},
		{season.Wave{2: -4 * far}, [4]int64{-far, far, -far, far}, true},
		{season.Wave{0, 2*far - 2*far*1i, 0, 2*far + 2*far*1i}, [4]int64{far, far, -far, -far}, true},
		{season.Wave{far + 2, far + 2, far + 2, far + 2}, [4]int64{}, false},
		{season.Wave{-far - 2, -far - 2, -far - 2, -far - 2}, [4]int64{}, false},
		{season.Wave{far + 2, far * 1i, -far, -far * 1i}, [4]int64{}, false},
		{season.Wave{4*far + 8}, [4]int64{}, false},
		{season.Wave{-4*far - 8}, [4]int64{}, false},
		{season.Wave{2: 4*far + 8}, [4]int64{}, false},
		{season.Wave{far + 4, far - 4i, far - 4, far + 4i}, [4]int64{far, 4, 0, 0}, true},
		{season.Wave{far + 8, far + 4 - 4i, far, far + 4 + 4i}, [4]int64{}, false},
		{season.Wave{-far - 4, -far + 4i, -far + 4, -far - 4i}, [4]int64{-far, -4, 0, 0}, true},
		{season.Wave{1 << 62, 1 << 62, 1 << 62, 1 << 62}, [4]int64{}, false},
		{season.Wave{1 << 63, 1 << 63, 1 << 63, 1 << 63}, [4]int64{}, false},
		{season.Wave{-1 << 62, -1 << 62, -1 << 62, -1 << 62}, [4]int64{}, false},
		{season.Wave{-1 << 63, -1 << 63, -1 << 63, -1 << 63}, [4]int64{}, false},
		{season.Wave{-1 << 62, 0, -1 << 62}, [4]int64{}, false},
		{season.Wave{-1 << 64}, [4]int64{}, false},
		{season.Wave{1 << 63, -1 << 63}, [4]int64{}, false},
		{season.Wave{1 << 64}, [4]int64{}, false},
		{season.Wave{1 << 62, 0, 1 << 62, 1 << 63}, [4]int64{}, false},
	} {
		sums, ok := c.wave.Back()
		want(t, fmt.Sprint("the sums of ", c.wave), sums, c.sums)
		want(t, fmt.Sprint("are there sums of ", c.wave), ok, c.ok)
	}
}

// TestPlus is P33.2: wave by wave.
func TestPlus(t *testing.T) {
	w := season.Wave{3, 1 - 2i, -1, 1 + 2i}
	v := season.Wave{10, 20i, 30 - 1i, -7}
	sum := season.Wave{13, 1 + 18i, 29 - 1i, -6 + 2i}
	want(t, "a sum", w.Plus(v), sum)
	want(t, "the other way", v.Plus(w), sum)
	want(t, "with nothing", w.Plus(season.Wave{}), w)
	want(t, "nothing with it", season.Wave{}.Plus(w), w)
	want(t, "the waves stay", w == season.Wave{3, 1 - 2i, -1, 1 + 2i} && v == season.Wave{10, 20i, 30 - 1i, -7}, true)
	want(t, "with itself", w.Plus(w), season.Wave{6, 2 - 4i, -2, 2 + 4i})
	want(t, "with less", w.Plus(season.Wave{-3, -1 + 2i, 1, -1 - 2i}), season.Wave{})
	want(t, "as far as may be", season.Wave{far - 1, 1 - far}.Plus(season.Wave{1, -1}), season.Wave{far, -far})
}

// TestLater is P33.2: each wave is turned by as much as it is.
func TestLater(t *testing.T) {
	w := season.Wave{3, 1 - 2i, -1, 5 + 2i}
	one := season.Wave{3, -2 - 1i, 1, -2 + 5i}
	two := season.Wave{3, -1 + 2i, -1, -5 - 2i}
	three := season.Wave{3, 2 + 1i, 1, 2 - 5i}
	for n, wanted := range map[int]season.Wave{
		0: w, 1: one, 2: two, 3: three, 4: w, 5: one, 6: two, 7: three, 8: w,
		-1: three, -2: two, -3: one, -4: w, -5: three,
		1000001: one, -1000001: three,
		math.MaxInt: three, math.MaxInt - 1: two, math.MinInt: w, math.MinInt + 1: one,
	} {
		want(t, fmt.Sprintf("Later(%d)", n), w.Later(n), wanted)
	}
	want(t, "the waves stay", w, season.Wave{3, 1 - 2i, -1, 5 + 2i})
	want(t, "nothing, later", season.Wave{}.Later(3), season.Wave{})
	want(t, "as far as may be", season.Wave{far, far - far*1i}.Later(1), season.Wave{far, -far - far*1i})
}

// TestPower is P33.2: which wave, and how great.
func TestPower(t *testing.T) {
	w := season.Wave{15, 3 + 2i, -4, 6 - 8i}
	for m, wanted := range map[int]int64{
		0: 225, 1: 13, 2: 16, 3: 100, 4: 225, 5: 13, 6: 16, 7: 100, -1: 100, -2: 16, -3: 13, -4: 225, -5: 100,
		math.MaxInt: 100, math.MinInt: 225, math.MinInt + 1: 13,
	} {
		want(t, fmt.Sprintf("Power(%d)", m), w.Power(m), wanted)
	}
	want(t, "the waves stay", w, season.Wave{15, 3 + 2i, -4, 6 - 8i})
	want(t, "of nothing", season.Wave{}.Power(0), 0)
	want(t, "an imaginary part alone", season.Wave{-9i}.Power(0), 81)
}

// TestPowerMost is P33.2: powers up to where they aren't told any more.
func TestPowerMost(t *testing.T) {
	for _, c := range []struct {
		wave  complex128
		power int64
	}{
		{94906265, 94906265 * 94906265},           // the greatest square up to 2^53
		{94906265i, 94906265 * 94906265},          //
		{67108864 + 67108864i, 1 << 53},           // 2^52, twice
		{67108864 - 67108863i, 1<<53 - 1<<27 + 1}, // just below
		{1 << 30, 1 << 60},
		{-1 << 30, 1 << 60},
		{1 << 30 * (1 + 1i), 1 << 61},
		{1 << 30 * (1 - 1i), 1 << 61},
		{1<<31 - 1, 1<<62 - 1<<32}, // beyond 2^53 a float has no 1 more
		{(1<<31 - 1) * 1i, 1<<62 - 1<<32},
		{1<<31 - 1 + 1i, 1<<62 - 1<<32},
		{1 << 31, -1},
		{-1 << 31, -1},
		{1 << 31 * 1i, -1},
		{1<<31 - 1 + 1<<31*1i, -1},
		{1<<31 - 1 + 65536i, -1},             // 1 more than 2^62
		{1<<31 - 1 + 65530i, 1<<62 - 786432}, // 37 less than what it is
		{3037000499, -1},                     // its square is below 2^63
		{1 << 30 * (1 + 2i), -1},
		{far, -1},
		{far + far*1i, -1},
		{1e300, -1},
		{complex(0, math.Inf(-1)), -1},
	} {
		for m := range 4 {
			var w season.Wave
			w[m] = c.wave
			want(t, fmt.Sprint("the power of ", c.wave), w.Power(m), c.power)
		}
	}
}
