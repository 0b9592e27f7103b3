package skip_test

import (
	"fmt"
	"math/bits"
	"testing"

	"bourse/api"
	"bourse/skip"
)

func name(i int) string { return fmt.Sprintf("k%05d", i) }

func flat(int) int { return 1 }

// ruler: the height that a tower has in a list each of whose levels has every second tower of the one below.
func ruler(i int) int { return bits.TrailingZeros(uint(i+1)) + 1 }

// filled: a list of so many keys, with towers of such heights, put one behind the other.
func filled(t *testing.T, n int, height func(int) int) *skip.List {
	t.Helper()
	l := skip.New()
	for i := range n {
		put(t, l, name(i), "v", height(i))
	}
	return l
}

// TestStepsOfFlatTowers: P7.2, each tower up to the key is compared, or up to the one behind it.
func TestStepsOfFlatTowers(t *testing.T) {
	const n = 10
	l := filled(t, n, flat)
	want(t, "Put behind all", l.Steps(), n-1)
	for i := range n {
		get(t, l, name(i), "v", true)
		want(t, "Get", l.Steps(), i+1)
		get(t, l, name(i)+"x", "", false)
		want(t, "Get of none", l.Steps(), min(i+2, n))
		put(t, l, name(i), "v", 1)
		want(t, "Put again", l.Steps(), i+1)
		get(t, l, "", "", false)
		want(t, "Get below all", l.Steps(), 1)
		for range l.From(name(i)) {
			want(t, "From", l.Steps(), i+1)
		}
	}
	get(t, l, "z", "", false)
	want(t, "Get above all", l.Steps(), n)
	want(t, "Put ahead of all", l.Put("a", "", 1), api.OK)
	want(t, "Put ahead of all: Steps", l.Steps(), 1)
}

// TestATowerCountsOnce: P7.2, on however many levels it stands.
func TestATowerCountsOnce(t *testing.T) {
	l := skip.New()
	put(t, l, "b", "v", 12)
	for _, k := range []string{"a", "b", "c"} {
		l.Get(k)
		want(t, "Get of "+k, l.Steps(), 1)
	}
	put(t, l, "d", "v", 12)
	for k, steps := range map[string]int{"a": 1, "b": 1, "c": 2, "d": 2, "e": 2} {
		l.Get(k)
		want(t, "of two, Get of "+k, l.Steps(), steps)
	}
}

// TestStepsOfDown: P7.2, each of its steps seeks.
func TestStepsOfDown(t *testing.T) {
	const n = 10
	l := filled(t, n, flat)
	for i := range n {
		steps, at := i+1, i
		for k := range l.Down(name(i)) {
			want(t, "Down", k, name(at))
			want(t, "Down: Steps", l.Steps(), steps)
			steps, at = at+1, at-1 // what is ahead of that one is sought next
		}
		want(t, "Down's last step", l.Steps(), 1)
	}
	get(t, l, "z", "", false)
	for range l.Down("") {
		bound(t, l)
		want(t, "Down of nothing compares no key with it", l.Steps(), 0)
		break
	}
}

// TestStepsStay: P7.2, Height, Len, Bytes, and rows that aren't gone through or are gone on with, don't count.
func TestStepsStay(t *testing.T) {
	l := filled(t, 10, flat)
	get(t, l, name(6), "v", true)
	stays := func(what string) {
		t.Helper()
		want(t, what, l.Steps(), 7)
	}
	l.Height(name(1))
	stays("Height")
	l.Height("none")
	stays("Height of none")
	l.Len()
	stays("Len")
	l.Bytes()
	stays("Bytes")
	l.From(name(2))
	stays("From, not gone through")
	l.Down(name(2))
	stays("Down, not gone through")
	l.Steps()
	stays("Steps")
	for range l.From(name(2)) {
		want(t, "From", l.Steps(), 3)
		get(t, l, name(6), "v", true)
		break
	}
	stays("From, left")
	first := true
	for range l.From(name(2)) {
		if first {
			want(t, "From's first", l.Steps(), 3)
			get(t, l, name(6), "v", true)
			first = false
		}
		stays("From's others")
	}
	stays("From's end")
}

// TestStepsAtTheirBound: P7.2, of lists whose levels all end at other towers, and of such whose levels all end at one.
func TestStepsAtTheirBound(t *testing.T) {
	shapes := map[string]func(int) int{
		"flat":    flat,
		"highest": func(int) int { return 12 },
		"rising":  func(i int) int { return i%12 + 1 },
		"falling": func(i int) int { return 12 - i%12 },
		"ruler":   ruler,
		"one":     func(i int) int { return 1 + i/11*11 },
	}
	for what, height := range shapes {
		for n := range 40 {
			l := filled(t, n, height)
			for i := range n + 1 {
				for _, k := range []string{name(i), name(i) + "x", ""} {
					l.Get(k)
					bound(t, l)
					want(t, what+": nothing is compared", l.Steps() == 0, n == 0)
					for range l.From(k) {
						bound(t, l)
					}
					for range l.Down(k) {
						bound(t, l)
					}
					bound(t, l)
				}
			}
			put(t, l, "zero", "", 12)
			bound(t, l)
		}
	}
}

// TestStepsOfGreatTowers: P7.2, they save steps: of 2^11 keys a few on each level are compared.
func TestStepsOfGreatTowers(t *testing.T) {
	const n = 1<<11 - 1
	l := filled(t, n, ruler)
	for i := range n {
		for _, k := range []string{name(i), name(i) + "x"} {
			l.Get(k)
			if l.Steps() < 1 || l.Steps() > 2*api.MaxHeight {
				t.Fatalf("Get(%s): %d steps", k, l.Steps())
			}
		}
	}
	for range l.Down("") {
		if l.Steps() > 2*api.MaxHeight {
			t.Fatalf("Down: %d steps", l.Steps())
		}
	}
	put(t, l, "j", "", 1)
	if l.Steps() > api.MaxHeight {
		t.Errorf("Put ahead of all: %d steps", l.Steps())
	}
}

// TestFull: P7.1, 2^16 keys and one more.
func TestFull(t *testing.T) {
	const n = 1 << 16
	l := skip.New()
	for i := range n {
		at := i * 40503 % n // all places, crosswise
		put(t, l, name(at), "v", ruler(at))
		bound(t, l)
	}
	full := func() {
		t.Helper()
		want(t, "Len", l.Len(), n)
		want(t, "Bytes", l.Bytes(), n*7)
		i := 0
		for k, v := range l.From("") {
			if k != name(i) || v != "v" {
				t.Fatalf("From: %q, %q at %d", k, v, i)
			}
			i++
		}
		want(t, "From", i, n)
		for k := range l.Down("") {
			i--
			if k != name(i) {
				t.Fatalf("Down: %q at %d", k, i)
			}
		}
		want(t, "Down", i, 0)
	}
	full()
	for _, k := range []string{"", "a", "k", name(5) + "x", "z"} {
		for _, height := range []int{0, 1, 12, 13} {
			want(t, "one more", l.Put(k, "w", height), api.ErrFull)
		}
		get(t, l, k, "", false)
		want(t, "Height of one more", l.Height(k), 0)
	}
	full()
	for _, i := range []int{0, 1, 4711, n - 1} {
		put(t, l, name(i), "other", 1)
		get(t, l, name(i), "other", true)
		want(t, "Bytes", l.Bytes(), n*7+4)
		put(t, l, name(i), "v", 1)
		want(t, "Height", l.Height(name(i)), min(ruler(i), 12))
	}
	full()
}

// TestNearlyFull: P7.1, the last key that has room has it.
func TestNearlyFull(t *testing.T) {
	l := filled(t, api.MaxTower-1, ruler)
	put(t, l, "", "first", 3)
	want(t, "one more", l.Put("a", "", 3), api.ErrFull)
	get(t, l, "", "first", true)
	want(t, "Len", l.Len(), 1<<16)
}
