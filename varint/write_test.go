package varint_test

import (
	"encoding/binary"
	"math"
	"strings"
	"testing"

	"bourse/varint"
)

// want: a test fails, if something is another thing than was wanted.
func want[T comparable](t *testing.T, what string, got, wanted T) {
	t.Helper()
	if got != wanted {
		t.Errorf("%s: %v, wanted %v", what, got, wanted)
	}
}

// same: as want, of bytes.
func same(t *testing.T, what, got, wanted string) {
	t.Helper()
	if got != wanted {
		t.Errorf("%s: %x, wanted %x", what, got, wanted)
	}
}

// numbers: those at which the bytes become more, the ends, and some in between of all lengths.
func numbers() []uint64 {
	l := []uint64{0, 300, math.MaxInt64, math.MaxInt64 + 1, math.MaxUint64}
	for bit := range 64 {
		n := uint64(1) << bit
		l = append(l, n-1, n, n+1)
	}
	n := uint64(3)
	for i := range 2000 {
		n = n*6364136223846793005 + 1442695040888963407
		l = append(l, n>>(i%64))
	}
	return l
}

// texts: of lengths about which their number's bytes become more, with all bytes in them.
func texts() []string {
	l := []string{"", "a", "hi", "\x00", "\xff", "\x80\x00", "a\x00b\xff", "Zürich"}
	for _, length := range []int{126, 127, 128, 129, 300, 16383, 16384} {
		b := make([]byte, length)
		for i := range b {
			b[i] = byte(i * 7)
		}
		l = append(l, string(b))
	}
	return l
}

// TestNumExamples: P3.1, by hand: the ends of each length.
func TestNumExamples(t *testing.T) {
	for _, c := range []struct {
		n uint64
		s string
	}{
		{0, "\x00"},
		{1, "\x01"},
		{127, "\x7f"},
		{128, "\x80\x01"},
		{255, "\xff\x01"},
		{300, "\xac\x02"},
		{1<<14 - 1, "\xff\x7f"},
		{1 << 14, "\x80\x80\x01"},
		{1<<21 - 1, "\xff\xff\x7f"},
		{1 << 21, "\x80\x80\x80\x01"},
		{1<<63 - 1, "\xff\xff\xff\xff\xff\xff\xff\xff\x7f"},
		{1 << 63, "\x80\x80\x80\x80\x80\x80\x80\x80\x80\x01"},
		{math.MaxUint64, "\xff\xff\xff\xff\xff\xff\xff\xff\xff\x01"},
	} {
		same(t, "Num", varint.Num(c.n), c.s)
		want(t, "Len", varint.Len(c.n), len(c.s))
	}
}

// TestNum: P3.1, against the library's.
func TestNum(t *testing.T) {
	for _, n := range numbers() {
		s := string(binary.AppendUvarint(nil, n))
		same(t, "Num", varint.Num(n), s)
		want(t, "Len", varint.Len(n), len(s))
	}
}

// TestSignedExamples: P3.1, by hand: about 0, and the ends.
func TestSignedExamples(t *testing.T) {
	for _, c := range []struct {
		n int64
		s string
	}{
		{0, "\x00"},
		{-1, "\x01"},
		{1, "\x02"},
		{-2, "\x03"},
		{2, "\x04"},
		{63, "\x7e"},
		{-64, "\x7f"},
		{64, "\x80\x01"},
		{-65, "\x81\x01"},
		{150, "\xac\x02"},
		{math.MaxInt64, "\xfe\xff\xff\xff\xff\xff\xff\xff\xff\x01"},
		{math.MinInt64, "\xff\xff\xff\xff\xff\xff\xff\xff\xff\x01"},
	} {
		same(t, "Signed", varint.Signed(c.n), c.s)
	}
}

// TestSigned: P3.1, against the library's.
func TestSigned(t *testing.T) {
	for _, u := range numbers() {
		for _, n := range []int64{int64(u), -int64(u)} {
			same(t, "Signed", varint.Signed(n), string(binary.AppendVarint(nil, n)))
		}
	}
}

// TestText: P3.1, how many bytes, and they.
func TestText(t *testing.T) {
	same(t, "nothing", varint.Text(""), "\x00")
	same(t, "hi", varint.Text("hi"), "\x02hi")
	same(t, "bytes 0 and 255", varint.Text("\x00\xff\x80"), "\x03\x00\xff\x80")
	same(t, "127 bytes", varint.Text(strings.Repeat("x", 127)), "\x7f"+strings.Repeat("x", 127))
	same(t, "128 bytes", varint.Text(strings.Repeat("x", 128)), "\x80\x01"+strings.Repeat("x", 128))
	for _, s := range texts() {
		same(t, "text", varint.Text(s), string(binary.AppendUvarint(nil, uint64(len(s))))+s)
	}
}

// TestFixedAndWide: P3.1, the lowest byte first.
func TestFixedAndWide(t *testing.T) {
	same(t, "Fixed", varint.Fixed(0x01020304), "\x04\x03\x02\x01")
	same(t, "Fixed of 0", varint.Fixed(0), "\x00\x00\x00\x00")
	same(t, "Fixed of the greatest", varint.Fixed(math.MaxUint32), "\xff\xff\xff\xff")
	same(t, "Wide", varint.Wide(0x0102030405060708), "\x08\x07\x06\x05\x04\x03\x02\x01")
	same(t, "Wide of 0", varint.Wide(0), "\x00\x00\x00\x00\x00\x00\x00\x00")
	same(t, "Wide of the greatest", varint.Wide(math.MaxUint64), "\xff\xff\xff\xff\xff\xff\xff\xff")
	for _, n := range numbers() {
		same(t, "Fixed", varint.Fixed(uint32(n)), string(binary.LittleEndian.AppendUint32(nil, uint32(n))))
		same(t, "Wide", varint.Wide(n), string(binary.LittleEndian.AppendUint64(nil, n)))
	}
}
