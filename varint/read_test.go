package varint_test

import (
	"fmt"
	"math"
	"strings"
	"testing"

	"bourse/api"
	"bourse/varint"
)

const (
	nine = "\xff\xff\xff\xff\xff\xff\xff\xff\xff" // of a number that goes on
	bare = "\x80\x80\x80\x80\x80\x80\x80\x80\x80" // the same, without a bit
)

// call: what is asked of a reader, by its name; what it answers, as a text.
type call struct {
	what string
	do   func(*varint.Reader) string
}

func num() call {
	return call{"Num()", func(r *varint.Reader) string { return fmt.Sprint(r.Num()) }}
}

func signed() call {
	return call{"Signed()", func(r *varint.Reader) string { return fmt.Sprint(r.Signed()) }}
}

func text(most int) call {
	return call{fmt.Sprintf("Text(%d)", most), func(r *varint.Reader) string { return r.Text(most) }}
}

func fixed() call {
	return call{"Fixed()", func(r *varint.Reader) string { return fmt.Sprint(r.Fixed()) }}
}

func wide() call {
	return call{"Wide()", func(r *varint.Reader) string { return fmt.Sprint(r.Wide()) }}
}

func take(n int) call {
	return call{fmt.Sprintf("Take(%d)", n), func(r *varint.Reader) string { return r.Take(n) }}
}

// zero: is it what a call answers beside an error?
func zero(s string) bool { return s == "" || s == "0" }

// stands: where a reader is, and what its error is.
func stands(t *testing.T, what string, r *varint.Reader, at, left int, e api.Errno) {
	t.Helper()
	want(t, what+": At", r.At(), at)
	want(t, what+": Left", r.Left(), left)
	want(t, what+": Err", r.Err(), e)
}

// stays: whatever is asked behind an error, all is zero and as it was.
func stays(t *testing.T, what string, r *varint.Reader) {
	t.Helper()
	at, left, e := r.At(), r.Left(), r.Err()
	for _, c := range []call{num(), signed(), text(math.MaxInt), text(0), text(-1), fixed(), wide(), take(0), take(1), take(-1)} {
		if got := c.do(r); !zero(got) {
			t.Errorf("%s: %s behind an error answers %q", what, c.what, got)
		}
		stands(t, what+": "+c.what, r, at, left, e)
	}
	for _, other := range []api.Errno{api.OK, api.ErrKey, api.ErrNil} {
		r.Fail(other)
		stands(t, what+": Fail", r, at, left, e)
	}
	want(t, what+": End", r.End(), e)
}

// TestReadExamples: P3.2, what stands next, and the reader is behind it.
func TestReadExamples(t *testing.T) {
	for _, c := range []struct {
		s    string
		call call
		want string
		at   int
	}{
		{"\x00", num(), "0", 1},
		{"\x7f", num(), "127", 1},
		{"\xac\x02", num(), "300", 2},
		{"\xac\x02\xff", num(), "300", 2},
		{"\x00\x00", num(), "0", 1},
		{"\x80\x01", num(), "128", 2},
		{bare + "\x01", num(), "9223372036854775808", 10},
		{nine + "\x01", num(), "18446744073709551615", 10},
		{nine + "\x01\x80", num(), "18446744073709551615", 10},
		{nine[:8] + "\x7f", num(), "9223372036854775807", 9},
		{"\x00", signed(), "0", 1},
		{"\x01", signed(), "-1", 1},
		{"\x02", signed(), "1", 1},
		{"\x80\x01", signed(), "64", 2},
		{nine + "\x01", signed(), "-9223372036854775808", 10},
		{"\xfe" + nine[1:] + "\x01", signed(), "9223372036854775807", 10},
		{"\x00", text(0), "", 1},
		{"\x00", text(-1), "", 1},
		{"\x00", text(math.MinInt), "", 1},
		{"\x00x", text(5), "", 1},
		{"\x02hi", text(2), "hi", 3},
		{"\x02hi", text(math.MaxInt), "hi", 3},
		{"\x02hi!", text(2), "hi", 3},
		{"\x03\x00\xff\x80", text(3), "\x00\xff\x80", 4},
		{"\x80\x01" + strings.Repeat("x", 128), text(128), strings.Repeat("x", 128), 130},
		{"\x04\x03\x02\x01", fixed(), "16909060", 4},
		{"\x04\x03\x02\x01\xff", fixed(), "16909060", 4},
		{"\xff\xff\xff\xff", fixed(), "4294967295", 4},
		{"\x08\x07\x06\x05\x04\x03\x02\x01", wide(), "72623859790382856", 8},
		{"\xff\xff\xff\xff\xff\xff\xff\xff\x01", wide(), "18446744073709551615", 8},
		{"", take(0), "", 0},
		{"abc", take(0), "", 0},
		{"abc", take(1), "a", 1},
		{"\x80\x00c", take(2), "\x80\x00", 2},
		{"abc", take(3), "abc", 3},
	} {
		for _, ahead := range []string{"", "ab", nine} {
			what := fmt.Sprintf("%s of %x behind %d bytes", c.call.what, c.s, len(ahead))
			r := varint.Over(ahead + c.s)
			stands(t, what+": first", r, 0, len(ahead)+len(c.s), api.OK)
			same(t, what+": ahead", r.Take(len(ahead)), ahead)
			same(t, what, c.call.do(r), c.want)
			stands(t, what, r, len(ahead)+c.at, len(c.s)-c.at, api.OK)
		}
	}
}

// TestReadErrors: P3.2, which error, and what was taken ahead of it; it stays.
func TestReadErrors(t *testing.T) {
	for _, c := range []struct {
		s    string
		call call
		want api.Errno
		at   int
	}{
		{"", num(), api.ErrShort, 0},
		{"\x80", num(), api.ErrShort, 0},
		{"\xff", num(), api.ErrShort, 0},
		{nine, num(), api.ErrShort, 0},
		{bare, num(), api.ErrShort, 0},
		{"\x80\x00", num(), api.ErrForm, 0},
		{"\xff\x00", num(), api.ErrForm, 0},
		{"\xff\x80\x00", num(), api.ErrForm, 0},
		{"\x80\x00\x01", num(), api.ErrForm, 0},
		{bare[1:] + "\x00", num(), api.ErrForm, 0},
		{bare + "\x00", num(), api.ErrForm, 0},
		{nine + "\x00", num(), api.ErrForm, 0},
		// The tenth byte alone tells: what is behind it, or isn't, makes no difference.
		{nine + "\x02", num(), api.ErrRange, 0},
		{bare + "\x02", num(), api.ErrRange, 0},
		{nine + "\x7f", num(), api.ErrRange, 0},
		{nine + "\x80", num(), api.ErrRange, 0},
		{nine + "\x81", num(), api.ErrRange, 0},
		{nine + "\xff", num(), api.ErrRange, 0},
		{bare + "\x80\x00", num(), api.ErrRange, 0},
		{bare + "\x80\x01", num(), api.ErrRange, 0},
		{nine + "\x81\x00", num(), api.ErrRange, 0},
		{bare + bare + bare, num(), api.ErrRange, 0},
		{"", signed(), api.ErrShort, 0},
		{"\x81", signed(), api.ErrShort, 0},
		{"\x81\x00", signed(), api.ErrForm, 0},
		{nine + "\x02", signed(), api.ErrRange, 0},
		{"", text(5), api.ErrShort, 0},
		{"\x80", text(5), api.ErrShort, 0},
		{"\x80", text(-1), api.ErrShort, 0},
		{"\x80\x00", text(5), api.ErrForm, 0},
		{"\x85\x00hello", text(5), api.ErrForm, 0},
		{nine + "\x02", text(5), api.ErrRange, 0},
		{"\x03hi", text(5), api.ErrShort, 1},
		{"\x03hi", text(3), api.ErrShort, 1},
		{"\x03hi", text(2), api.ErrLong, 1},
		{"\x03hi!", text(2), api.ErrLong, 1},
		{"\x01", text(0), api.ErrLong, 1},
		{"\x01a", text(0), api.ErrLong, 1},
		{"\x01a", text(-1), api.ErrLong, 1},
		{"\x01a", text(math.MinInt), api.ErrLong, 1},
		{"\x01", text(1), api.ErrShort, 1},
		{"\xac\x02", text(299), api.ErrLong, 2},
		{"\xac\x02", text(300), api.ErrShort, 2},
		{nine + "\x01a", text(5), api.ErrLong, 10},
		{nine + "\x01a", text(math.MaxInt), api.ErrLong, 10},
		{bare + "\x01a", text(math.MaxInt), api.ErrLong, 10},
		{nine[:8] + "\x7fa", text(math.MaxInt), api.ErrShort, 9},
		{nine[:8] + "\x7fa", text(math.MaxInt - 1), api.ErrLong, 9},
		{"", fixed(), api.ErrShort, 0},
		{"abc", fixed(), api.ErrShort, 0},
		{"", wide(), api.ErrShort, 0},
		{"abcdefg", wide(), api.ErrShort, 0},
		{"", take(1), api.ErrShort, 0},
		{"abc", take(4), api.ErrShort, 0},
		{"abc", take(math.MaxInt), api.ErrShort, 0},
		{"abc", take(-1), api.ErrShort, 0},
		{"abc", take(math.MinInt), api.ErrShort, 0},
		{"", take(-1), api.ErrShort, 0},
	} {
		for _, ahead := range []string{"", "\x80", "ab\x00"} {
			what := fmt.Sprintf("%s of %x behind %d bytes", c.call.what, c.s, len(ahead))
			r := varint.Over(ahead + c.s)
			r.Take(len(ahead))
			if got := c.call.do(r); !zero(got) {
				t.Errorf("%s answers %q", what, got)
			}
			stands(t, what, r, len(ahead)+c.at, len(c.s)-c.at, c.want)
			stays(t, what, r)
		}
	}
}

// TestReadInTurn: P3.2, one thing behind the other, and the first error in their middle.
func TestReadInTurn(t *testing.T) {
	s := varint.Num(300) + varint.Signed(-5) + varint.Text("hi") + varint.Fixed(7) + varint.Wide(9)
	r := varint.Over(s + "rest")
	want(t, "Num", r.Num(), 300)
	want(t, "Signed", r.Signed(), -5)
	want(t, "Text", r.Text(2), "hi")
	want(t, "Fixed", r.Fixed(), 7)
	want(t, "Wide", r.Wide(), 9)
	stands(t, "all", r, len(s), 4, api.OK)
	want(t, "End ahead of the rest", r.End(), api.ErrForm)
	stands(t, "End says it, and no more", r, len(s), 4, api.OK)
	want(t, "Wide of four", r.Wide(), 0)
	stands(t, "Wide of four", r, len(s), 4, api.ErrShort)
	stays(t, "Wide of four", r)
}

// TestEnd: P3.2, the error; ErrForm, where bytes are left; OK.
func TestEnd(t *testing.T) {
	want(t, "of nothing", varint.Over("").End(), api.OK)
	r := varint.Over("ab")
	want(t, "at the first byte", r.End(), api.ErrForm)
	want(t, "no error of its own", r.Err(), api.OK)
	want(t, "goes on", r.Take(1), "a")
	want(t, "at the last byte", r.End(), api.ErrForm)
	want(t, "goes on", r.Take(1), "b")
	want(t, "behind all", r.End(), api.OK)
	want(t, "nothing more", r.Take(1), "")
	want(t, "behind an error", r.End(), api.ErrShort)
	r = varint.Over("ab")
	r.Take(3)
	want(t, "an error, and bytes left", r.End(), api.ErrShort)
}

// TestFail: P3.2, the first error is the error.
func TestFail(t *testing.T) {
	for _, e := range []api.Errno{api.ErrKey, api.ErrForm, api.ErrNil, 999, -1} {
		r := varint.Over("\x01bc")
		want(t, "a number", r.Num(), 1)
		r.Fail(api.OK)
		stands(t, "Fail(OK)", r, 1, 2, api.OK)
		r.Fail(e)
		stands(t, "Fail", r, 1, 2, e)
		stays(t, "Fail", r)
		r = varint.Over("")
		r.Fail(e)
		want(t, "End of nothing", r.End(), e)
	}
}

// TestNil: P3.2, zero, ErrNil.
func TestNil(t *testing.T) {
	var r *varint.Reader
	stands(t, "nil", r, 0, 0, api.ErrNil)
	r.Fail(api.ErrKey)
	r.Fail(api.OK)
	stays(t, "nil", r)
	want(t, "End", r.End(), api.ErrNil)
}

// TestReaders: each goes its own way over the same bytes.
func TestReaders(t *testing.T) {
	s := "\x01\x02\x03"
	a, b := varint.Over(s), varint.Over(s)
	want(t, "a", a.Num(), 1)
	want(t, "a", a.Num(), 2)
	a.Fail(api.ErrKey)
	stands(t, "b", b, 0, 3, api.OK)
	want(t, "b", b.Num(), 1)
	stands(t, "a", a, 2, 1, api.ErrKey)
}
