package block_test

import (
	"fmt"
	"slices"
	"strings"
	"testing"

	"bourse/api"
	"bourse/block"
)

// refused: an error, and no block beside it.
func refused(t *testing.T, what, s string, wanted api.Errno) {
	t.Helper()
	b, e := block.Open(s)
	if b != nil || e != wanted {
		t.Errorf("%s: %v, a block: %v, wanted %v", what, e, b != nil, wanted)
	}
}

// TestOpenShort: P10.1, of all lengths below eight, whatever the bytes; of eight no more.
func TestOpenShort(t *testing.T) {
	for n := range 8 {
		refused(t, fmt.Sprint(n, " bytes 0"), strings.Repeat("\x00", n), api.ErrShort)
		refused(t, fmt.Sprint(n, " bytes 255"), strings.Repeat("\xff", n), api.ErrShort)
		refused(t, fmt.Sprint(n, " bytes of a block"), written(nil)[:n], api.ErrShort)
		if n >= 4 {
			refused(t, fmt.Sprint(n, " bytes whose sum is right"), sealed(written(plain(3))[:n-4]), api.ErrShort)
		}
	}
	refused(t, "eight bytes 0", strings.Repeat("\x00", 8), api.ErrSum)
	refused(t, "eight bytes, one start", sealed(fixed(1)), api.ErrForm)
	want(t, "eight bytes that are a block", opened(t, sealed(fixed(0))).Len(), 0)
}

// TestOpenSum: P10.1, of each byte turned, of blocks cut and with more behind them.
func TestOpenSum(t *testing.T) {
	for _, l := range [][]api.Entry{nil, plain(1), plain(8), plain(9), plain(20)} {
		s := written(l)
		for i := range s {
			for bit := range 8 {
				b := []byte(s)
				b[i] ^= 1 << bit
				refused(t, fmt.Sprint("bit ", bit, " of byte ", i), string(b), api.ErrSum)
			}
			if i >= 8 {
				refused(t, fmt.Sprint("cut to ", i), s[:i], api.ErrSum)
				refused(t, fmt.Sprint("cut from ", len(s)-i), s[len(s)-i:], api.ErrSum)
			}
		}
		refused(t, "a byte more behind", s+"\x00", api.ErrSum)
		refused(t, "a byte more ahead", "\x00"+s, api.ErrSum)
		refused(t, "twice", s+s[:8]+s, api.ErrSum)
	}
	s := written(plain(3))
	bare := s[:len(s)-4]
	refused(t, "a sum of nothing", bare+"\x00\x00\x00\x00", api.ErrSum)
	refused(t, "a sum that isn't whole, of bytes that are no block", "\xff\xff\xff\xff"+"\xff\xff\xff\xff", api.ErrSum)
}

// TestOpenForm: P10.1, bytes whose sum is right, and which Make would not write so.
func TestOpenForm(t *testing.T) {
	const (
		a     = "\x00\x02aa\x01\x01\x01v"
		b     = "\x01\x01b\x01\x01\x01v"
		none  = "\x00\x00\x00\x00\x00" // the zero entry
		again = "\x02\x00\x00\x01\x00" // of the key ahead of two bytes, the number 0
	)
	one := fixed(0, 1)
	nine := written(plain(9))
	nine = nine[:len(nine)-16] // the entries alone; the ninth begins at 58
	huge := "\xff\xff\xff\xff\xff\xff\xff\xff\xff\x01"
	for _, c := range []struct {
		what, s string
		want    api.Errno
	}{
		{"as it must be", a + b + again + one, api.OK},
		{"nine as they must be", nine + fixed(0, 58, 2), api.OK},

		{"fewer shared than there are", a + "\x00\x02ab\x01\x01\x01v" + one, api.ErrForm},
		{"fewer shared, of the same key", a + "\x01\x01a\x00\x01\x00" + one, api.ErrForm},
		{"none shared, of the same key", a + "\x00\x02aa\x00\x01\x00" + one, api.ErrForm},
		{"more shared than there are", a + "\x03\x01b\x01\x01\x01v" + one, api.ErrForm},
		{"far more shared than there are", a + huge + "\x01b\x01\x01\x01v" + one, api.ErrForm},
		{"2^63 shared", a + "\x80\x80\x80\x80\x80\x80\x80\x80\x80\x01\x01b\x01\x01\x01v" + one, api.ErrForm},
		{"2^32 shared", a + "\x80\x80\x80\x80\x10\x01b\x01\x01\x01v" + one, api.ErrForm},
		{"2^32 and one shared", a + "\x81\x80\x80\x80\x10\x01b\x01\x01\x01v" + one, api.ErrForm},
		{"some shared, at the first", "\x01\x01a\x01\x01\x01v" + one, api.ErrForm},
		{"some shared, at a start", nine[:58] + "\x02\x01i\x01\x01\x01v" + fixed(0, 58, 2), api.ErrForm},
		{"none shared, ahead of a start", nine[:51] + "\x00\x03keh\x01\x01\x01v" + fixed(0, 1), api.ErrForm},

		{"a start elsewhere", nine + fixed(0, 51, 2), api.ErrForm},
		{"a start a byte on", nine + fixed(0, 59, 2), api.ErrForm},
		{"a start far beyond", nine + fixed(0, 1<<31, 2), api.ErrForm},
		{"a first start elsewhere", nine + fixed(1, 58, 2), api.ErrForm},
		{"starts turned round", nine + fixed(58, 0, 2), api.ErrForm},
		{"too few starts", nine + fixed(0, 1), api.ErrForm},
		{"none of them", nine + fixed(0), api.ErrForm},
		{"too few told", nine + fixed(0, 58, 1), api.ErrForm},
		{"none of them told", nine + fixed(0, 58, 0), api.ErrForm},
		{"too many starts", nine + fixed(0, 58, 58, 3), api.ErrForm},
		{"one more at the end", nine + fixed(0, 58, uint32(len(nine)), 3), api.ErrForm},
		{"too many told", nine + fixed(0, 58, 3), api.ErrForm},
		{"a start at each", a + b + fixed(0, 8, 2), api.ErrForm},
		{"as many told as there are bytes", a + fixed(2), api.ErrForm},
		{"more told than there are bytes", a + fixed(3), api.ErrForm},
		{"very many told", a + fixed(0, 1<<30), api.ErrForm},
		{"very many told, 2^30 and one", a + fixed(0, 1<<30+1), api.ErrForm},
		{"2^31 told", a + fixed(0, 1<<31), api.ErrForm},
		{"as many told as can be", a + fixed(0, 1<<32-1), api.ErrForm},
		{"of no entries one", fixed(0, 1), api.ErrForm},
		{"of no entries one that isn't there", fixed(1), api.ErrForm},
		{"of no entries two", fixed(0, 0, 2), api.ErrForm},

		{"a byte behind the last entry", a + b + "\x00" + one, api.ErrForm},
		{"four bytes behind the last entry", a + b + "\x00\x00\x00\x00" + one, api.ErrForm},
		{"bytes and no entry", "\x00" + fixed(0), api.ErrForm},
		{"an entry and no start", a + fixed(0), api.ErrForm},

		{"shared bytes told in more than they need", "\x80\x00\x02aa\x01\x01\x01v" + one, api.ErrForm},
		{"own bytes told in more than they need", "\x00\x82\x00aa\x01\x01\x01v" + one, api.ErrForm},
		{"a number told in more than it needs", "\x00\x02aa\x81\x00\x01\x01v" + one, api.ErrForm},
		{"a value's bytes told in more than they need", "\x00\x02aa\x01\x01\x81\x00v" + one, api.ErrForm},
		{"a number above all", "\x00\x02aa\xff\xff\xff\xff\xff\xff\xff\xff\xff\x02\x01\x01v" + one, api.ErrForm},
		{"a number of eleven bytes", "\x00\x02aa\x80\x80\x80\x80\x80\x80\x80\x80\x80\x80\x01\x01\x01v" + one, api.ErrForm},
		{"the utmost number", "\x00\x02aa" + huge + "\x01\x01v" + one, api.OK},
		{"more own bytes than there are", "\x00\x08aa\x01\x01\x01v" + one, api.ErrForm},
		{"far more own bytes than there are", "\x00" + huge + "aa\x01\x01\x01v" + one, api.ErrForm},
		{"more bytes of a value than there are", "\x00\x02aa\x01\x01\x02v" + one, api.ErrForm},
		{"far more bytes of a value than there are", "\x00\x02aa\x01\x01" + huge + "v" + one, api.ErrForm},
		{"a value that goes on in the starts", "\x00\x02aa\x01\x01\x05v" + one, api.ErrForm},

		{"the same entry twice", a + "\x02\x00\x01\x01\x01v" + one, api.ErrForm},
		{"another value alone", a + "\x02\x00\x01\x01\x01w" + one, api.ErrForm},
		{"a greater number", a + "\x02\x00\x02\x01\x00" + one, api.ErrForm},
		{"a greater kind", a + "\x02\x00\x01\x02\x00" + one, api.ErrForm},
		{"a lesser kind", a + "\x02\x00\x01\x00\x00" + one, api.OK},
		{"a lesser key", "\x00\x01b\x00\x01\x00" + "\x00\x01a\x00\x01\x00" + one, api.ErrForm},
		{"a key that begins the one ahead", a + "\x01\x00\x01\x01\x01v" + one, api.ErrForm},
		{"the zero one twice", none + none + one, api.ErrForm},
		{"the zero one", none + one, api.OK},
		{"any kind", "\x00\x02aa\x01\xff\x00" + one, api.OK},
	} {
		if c.want == api.OK {
			opened(t, sealed(c.s))
			continue
		}
		refused(t, c.what, sealed(c.s), c.want)
	}
}

// TestOpenCut: P10.1, entries that end too early anywhere; between two of them the others are a block, where it has as many starts.
func TestOpenCut(t *testing.T) {
	for _, n := range []int{1, 8, 9} {
		s := written(plain(n))
		starts := (n + 7) / 8
		entries, rest := s[:len(s)-8-4*starts], s[len(s)-8-4*starts:len(s)-4]
		blocks := 0
		for i := range entries {
			refused(t, fmt.Sprint(n, " cut from ", i+1), sealed(entries[i+1:]+rest), api.ErrForm)
			if l, ok := readBlock(sealed(entries[:i] + rest)); ok {
				row(t, "the others", opened(t, sealed(entries[:i]+rest)).All(), l...)
				blocks++
				continue
			}
			refused(t, fmt.Sprint(n, " cut to ", i), sealed(entries[:i]+rest), api.ErrForm)
		}
		want(t, fmt.Sprint("blocks of ", n), blocks, map[int]int{1: 0, 8: 7, 9: 0}[n])
	}
}

// TestOpenOfItsOwn: what is handed in isn't kept; two blocks of the same bytes tell the same.
func TestOpenOfItsOwn(t *testing.T) {
	b := []byte(written(plain(20)))
	x := opened(t, loose(b))
	y := opened(t, loose(b))
	clear(b)
	for _, got := range []*block.Block{x, y} {
		want(t, "as it was", slices.Equal(slices.Collect(got.All()), plain(20)), true)
	}
	want(t, "two blocks", x != y, true)
}
