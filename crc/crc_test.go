package crc_test

import (
	"hash/crc32"
	"math"
	"strings"
	"testing"

	"bourse/crc"
)

// numbers: the ends, and some in between.
func numbers() []uint32 {
	l := []uint32{0, 1, 2, 1 << 14, 1 << 15, 1 << 16, 1 << 17, 1 << 31, 0x7fffffff, 0xa282ead8, 0xa282ead7, math.MaxUint32}
	n := uint32(1)
	for range 2000 {
		n = n*1664525 + 1013904223
		l = append(l, n)
	}
	return l
}

// text: so many bytes, of all values.
func text(length int) string {
	b := make([]byte, length)
	n := uint32(length) + 7
	for i := range b {
		n = n*1664525 + 1013904223
		b[i] = byte(n >> 24)
	}
	return string(b)
}

// TestTable: P1.1, each number against the library's.
func TestTable(t *testing.T) {
	got := crc.Table()
	for i, want := range crc32.MakeTable(crc32.Castagnoli) {
		if got[i] != want {
			t.Errorf("table at %d: %x, wanted %x", i, got[i], want)
		}
	}
	got[3] = 77
	if crc.Table()[3] == 77 {
		t.Error("two tables share memory")
	}
}

// TestOfExamples: P1.1, sums that are known.
func TestOfExamples(t *testing.T) {
	rising := make([]byte, 32)
	for i := range rising {
		rising[i] = byte(i)
	}
	for _, c := range []struct {
		s    string
		want uint32
	}{
		{"", 0},
		{"a", 0xc1d04330},
		{"123456789", 0xe3069283},
		{strings.Repeat("\x00", 32), 0x8a9136aa},
		{strings.Repeat("\xff", 32), 0x62a8ab43},
		{string(rising), 0x46dd794e},
	} {
		if got := crc.Of(c.s); got != c.want {
			t.Errorf("Of(%q): %x, wanted %x", c.s, got, c.want)
		}
	}
}

// TestAdd: P1.1, texts of many lengths behind many sums.
func TestAdd(t *testing.T) {
	table := crc32.MakeTable(crc32.Castagnoli)
	for length := range 600 {
		s := text(length)
		if got, want := crc.Of(s), crc32.Checksum([]byte(s), table); got != want {
			t.Fatalf("Of %d bytes: %x, wanted %x", length, got, want)
		}
		for _, sum := range []uint32{0, 1, 0xe3069283, math.MaxUint32} {
			if got, want := crc.Add(sum, s), crc32.Update(sum, table, []byte(s)); got != want {
				t.Fatalf("Add(%x, %d bytes): %x, wanted %x", sum, length, got, want)
			}
		}
	}
}

// TestAddNothing: P1.1, a text that goes on with nothing.
func TestAddNothing(t *testing.T) {
	for _, n := range numbers() {
		if got := crc.Add(n, ""); got != n {
			t.Fatalf("Add(%x, nothing): %x", n, got)
		}
	}
}

// TestMaskExamples: P1.2, reckoned by hand.
func TestMaskExamples(t *testing.T) {
	for _, c := range []struct{ n, want uint32 }{
		{0, 0xa282ead8},
		{1, 0xa284ead8},
		{1 << 14, 0x2282ead8},
		{1 << 15, 0xa282ead9},
		{1 << 31, 0xa283ead8},
		{math.MaxUint32, 0xa282ead7},
	} {
		if got := crc.Mask(c.n); got != c.want {
			t.Errorf("Mask(%x): %x, wanted %x", c.n, got, c.want)
		}
		if got := crc.Unmask(c.want); got != c.n {
			t.Errorf("Unmask(%x): %x, wanted %x", c.want, got, c.n)
		}
	}
}

// TestMaskBothWays: P1.2, each undoes the other.
func TestMaskBothWays(t *testing.T) {
	for _, n := range numbers() {
		if got := crc.Unmask(crc.Mask(n)); got != n {
			t.Fatalf("Unmask(Mask(%x)): %x", n, got)
		}
		if got := crc.Mask(crc.Unmask(n)); got != n {
			t.Fatalf("Mask(Unmask(%x)): %x", n, got)
		}
	}
}

// TestWhole: P1.2, the sum masked and no other number.
func TestWhole(t *testing.T) {
	for _, length := range []int{0, 1, 9, 255, 256, 300} {
		s := text(length)
		masked := crc.Mask(crc.Of(s))
		if !crc.Whole(s, masked) {
			t.Errorf("%d bytes aren't whole", length)
		}
		if crc.Whole(s, crc.Of(s)) {
			t.Errorf("%d bytes are whole by a sum that isn't masked", length)
		}
		if crc.Whole(s+"x", masked) {
			t.Errorf("%d bytes and one more are whole", length)
		}
		for bit := range 32 {
			if crc.Whole(s, masked^1<<bit) {
				t.Errorf("%d bytes are whole with bit %d turned", length, bit)
			}
		}
	}
}

// TestParts: P1.3, wherever a text is cut, in two and in three.
func TestParts(t *testing.T) {
	for _, length := range []int{1, 9, 255, 256, 257, 520} {
		s := text(length)
		want := crc.Of(s)
		for i := range length + 1 {
			if got := crc.Add(crc.Of(s[:i]), s[i:]); got != want {
				t.Fatalf("%d bytes cut at %d: %x, wanted %x", length, i, got, want)
			}
			j := i + (length-i)/2
			if got := crc.Add(crc.Add(crc.Of(s[:i]), s[i:j]), s[j:]); got != want {
				t.Fatalf("%d bytes cut at %d and %d: %x, wanted %x", length, i, j, got, want)
			}
		}
	}
}

// TestTurned: P1.3, whatever is turned within four bytes in a row.
func TestTurned(t *testing.T) {
	for _, length := range []int{4, 31, 255, 256, 300} {
		s := text(length)
		want := crc.Of(s)
		for at := range length - 3 {
			for _, n := range numbers()[1:60] {
				b := []byte(s)
				for i := range 4 {
					b[at+i] ^= byte(n >> (8 * i))
				}
				if crc.Of(string(b)) == want {
					t.Fatalf("%d bytes with %x turned at %d have the same sum", length, n, at)
				}
			}
		}
	}
}
