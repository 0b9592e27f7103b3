package bloom_test

import (
	"fmt"
	"math"
	"slices"
	"strings"
	"testing"
	"unsafe"

	"bourse/bloom"
)

// want: a test fails, if something is another thing than was wanted.
func want[T comparable](t *testing.T, what string, got, wanted T) {
	t.Helper()
	if got != wanted {
		t.Errorf("%s: %v, wanted %v", what, got, wanted)
	}
}

// same: as want, of bytes.
func same(t *testing.T, what, got, wanted string) {
	t.Helper()
	if got != wanted {
		t.Errorf("%s: %x, wanted %x", what, got, wanted)
	}
}

// TestBitsExamples: P9.1, by hand: 10 for each, at least 64, up to whole bytes.
func TestBitsExamples(t *testing.T) {
	for _, c := range []struct{ keys, bits int }{
		{math.MinInt, 64},
		{math.MinInt + 1, 64},
		{math.MinInt / 2, 64},
		{math.MinInt/10 - 1, 64}, // ten times that goes round, to above 0
		{-1 << 62, 64},
		{-7, 64},
		{-1, 64},
		{0, 64},
		{1, 64},
		{2, 64},
		{6, 64},
		{7, 72},
		{8, 80},
		{9, 96},
		{10, 104},
		{11, 112},
		{12, 120},
		{13, 136},
		{16, 160},
		{100, 1000},
		{101, 1016},
		{1 << 16, 655360},
		{1 << 31, 21474836480},
		{1<<59 + 1, 10<<59 + 16},
	} {
		want(t, fmt.Sprintf("Bits(%d)", c.keys), bloom.Bits(c.keys), c.bits)
	}
}

// TestBits: P9.1, the least number of whole bytes that has 64 bits, and 10 for each key.
func TestBits(t *testing.T) {
	for keys := range 5000 {
		b := bloom.Bits(keys)
		enough := func(b int) bool { return b >= 64 && b >= 10*keys }
		if b%8 != 0 || !enough(b) || enough(b-8) {
			t.Fatalf("Bits(%d): %d", keys, b)
		}
	}
}

// TestBitsOfGreatNumbers: P9.1, up to the last number whose bits an int can tell; beyond it nothing goes round, and no bytes are broken.
func TestBitsOfGreatNumbers(t *testing.T) {
	const (
		top  = math.MaxInt - 7 // the greatest number of whole bytes
		last = top / 10
	)
	for _, keys := range []int{last - 1000, last - 3, last - 2, last - 1, last} {
		b := bloom.Bits(keys)
		if b%8 != 0 || b < keys*10 || b-8 >= keys*10 {
			t.Errorf("Bits(%d): %d", keys, b)
		}
	}
	for _, keys := range []int{last + 1, last + 2, math.MaxInt/8 + 1, 1 << 61, 1 << 62, math.MaxInt - 1, math.MaxInt} {
		want(t, fmt.Sprintf("Bits(%d)", keys), bloom.Bits(keys), top)
	}
}

// TestPlacesExamples: P9.1, numbers that were worked out apart from the program, bit by bit, of the sums c1d04330 (a) and b695ae48 (a with a byte 7 behind), and of 0 (nothing) and 86b737ba (a byte 7).
func TestPlacesExamples(t *testing.T) {
	for _, c := range []struct {
		key    string
		bits   int
		places [6]int
	}{
		{"a", 1 << 32, [6]int{0xc1d04330, 0x7865f179, 0x2efb9fc4, 0xe5914e11, 0x9c26fc60, 0x52bcaab1}},
		{"", 1 << 32, [6]int{0, 0x86b737bb, 0x0d6e6f78, 0x9425a737, 0x1adcdef8, 0xa19416bb}},
	} {
		want(t, fmt.Sprintf("Places(%q, %d)", c.key, c.bits), bloom.Places(c.key, c.bits), c.places)
		for _, bits := range []int{1, 2, 7, 64, 72, 1000, 1 << 31} {
			var wanted [6]int
			for i, n := range c.places {
				wanted[i] = n % bits
			}
			want(t, fmt.Sprintf("Places(%q, %d)", c.key, bits), bloom.Places(c.key, bits), wanted)
		}
	}
}

// TestPlacesOfNoBits: P9.1, all 0.
func TestPlacesOfNoBits(t *testing.T) {
	for _, bits := range []int{math.MinInt, math.MinInt + 1, -1 << 32, -64, -8, -1, 0, 1} {
		for _, key := range []string{"", "a", "\x07", "\xff\x00", strings.Repeat("x", 1000)} {
			want(t, fmt.Sprintf("Places(%q, %d)", key, bits), bloom.Places(key, bits), [6]int{})
		}
	}
}

// TestMakeExamples: P9.1, by hand: which bit of which byte.
func TestMakeExamples(t *testing.T) {
	none := "\x00\x00\x00\x00\x00\x00\x00\x00"
	same(t, "of no keys", bloom.Make(nil), none)
	same(t, "of an empty list", bloom.Make([]string{}), none)
	// Of 64 bits the places of nothing are 0, 59, 56, 55, 56 and 59, those of a 48, 57, 4, 17, 32 and 49.
	empty := "\x01\x00\x00\x00\x00\x00\x80\x09"
	same(t, "of the empty key", bloom.Make([]string{""}), empty)
	same(t, "of the empty key, twice", bloom.Make([]string{"", ""}), empty)
	same(t, "of a", bloom.Make([]string{"a"}), "\x10\x00\x02\x00\x01\x00\x03\x02")
	both := "\x11\x00\x02\x00\x01\x00\x83\x0b"
	same(t, "of both", bloom.Make([]string{"a", ""}), both)
	same(t, "of both, turned round", bloom.Make([]string{"", "a"}), both)
	same(t, "of both, one twice", bloom.Make([]string{"a", "", "a"}), both)
}

// TestMayExamples: P9.2, of no bytes, of one, and of such that no Make wrote.
func TestMayExamples(t *testing.T) {
	keys := []string{"", "a", "b", "\x07", "\xff", strings.Repeat("x", 300)}
	for _, key := range keys {
		want(t, "of no bytes", bloom.May("", key), true)
		for n := 1; n < 20; n++ {
			want(t, "all bits 0", bloom.May(strings.Repeat("\x00", n), key), false)
			want(t, "all bits 1", bloom.May(strings.Repeat("\xff", n), key), true)
		}
	}
	// Of 8 bits the places of nothing are 0, 3, 0, 7, 0 and 3.
	want(t, "just its bits", bloom.May("\x89", ""), true)
	want(t, "more than its bits", bloom.May("\xcb", ""), true)
	for _, f := range []string{"\x88", "\x81", "\x09", "\x76", "\xfe", "\xf7", "\x7f"} {
		want(t, "but for some", bloom.May(f, ""), false)
	}
	want(t, "another key", bloom.May("\x89", "b"), false)
	want(t, "a key, in the empty one's filter", bloom.May(bloom.Make([]string{""}), "a"), false)
}

// TestMemory: what is handed in stays, spare room included; a filter is new memory.
func TestMemory(t *testing.T) {
	l := []string{"c", "a", "b", "a", "spare room"}
	kept := slices.Clone(l)
	f, g := bloom.Make(l[:4]), bloom.Make(l[:4])
	want(t, "the keys stay", slices.Equal(l, kept), true)
	same(t, "made again", f, g)
	want(t, "shared", unsafe.StringData(f) == unsafe.StringData(g), false)
	bloom.May(f, "a")
	same(t, "asked", f, g)
}
