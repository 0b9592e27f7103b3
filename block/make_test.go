package block_test

import (
	"fmt"
	"math"
	"slices"
	"strings"
	"testing"

	"bourse/api"
	"bourse/block"
)

func x(n int) string { return strings.Repeat("x", n) }

// plain: so many entries, whose keys share two bytes each with the one ahead.
func plain(n int) []api.Entry {
	var l []api.Entry
	for i := range n {
		l = append(l, entry("ke"+string([]byte{byte('a' + i)}), 1, 1, "v"))
	}
	return l
}

// TestNone: the chapter's example.
func TestNone(t *testing.T) {
	for _, l := range [][]api.Entry{nil, {}} {
		s, e := block.Make(l)
		same(t, "no entries", s, sealed("\x00\x00\x00\x00"))
		want(t, "bytes", len(s), 8)
		want(t, "Make", e, api.OK)
	}
}

// TestBytesByHand: P10.1, the bytes of an entry, what a key shares with the one ahead, what starts are.
func TestBytesByHand(t *testing.T) {
	one := fixed(0, 1)
	eight := "\x00\x03kea\x01\x01\x01v"
	for i := 1; i < 8; i++ {
		eight += "\x02\x01" + string([]byte{byte('a' + i)}) + "\x01\x01\x01v"
	}
	for _, c := range []struct {
		what string
		l    []api.Entry
		s    string
	}{
		{"the zero one", []api.Entry{{}}, "\x00\x00\x00\x00\x00" + one},
		{"one", []api.Entry{entry("key", 5, 1, "value")}, "\x00\x03key\x05\x01\x05value" + one},
		{"a Delete", []api.Entry{entry("key", 300, 2, "")}, "\x00\x03key\xac\x02\x02\x00" + one},
		{"the utmost number and kind", []api.Entry{entry("k", math.MaxUint64, 255, "")}, "\x00\x01k\xff\xff\xff\xff\xff\xff\xff\xff\xff\x01\xff\x00" + one},
		{"a key of 128 bytes", []api.Entry{entry(x(128), 0, 1, "")}, "\x00\x80\x01" + x(128) + "\x00\x01\x00" + one},
		{"a key of more than 200 bytes", []api.Entry{entry(x(300), 0, 1, "")}, "\x00\xac\x02" + x(300) + "\x00\x01\x00" + one},
		{"a value of more than 4096 bytes", []api.Entry{entry("k", 0, 1, x(16384))}, "\x00\x01k\x00\x01\x80\x80\x01" + x(16384) + one},
		{"no byte shared", []api.Entry{entry("ab", 1, 1, "v"), entry("bb", 1, 1, "w")}, "\x00\x02ab\x01\x01\x01v" + "\x00\x02bb\x01\x01\x01w" + one},
		{"some bytes shared", []api.Entry{entry("abc", 1, 1, "v"), entry("abdc", 1, 1, "w")}, "\x00\x03abc\x01\x01\x01v" + "\x02\x02dc\x01\x01\x01w" + one},
		{"all bytes of the one ahead shared", []api.Entry{entry("ab", 1, 1, "v"), entry("abc", 1, 1, "w")}, "\x00\x02ab\x01\x01\x01v" + "\x02\x01c\x01\x01\x01w" + one},
		{"all bytes shared", []api.Entry{entry("ab", 2, 1, "v"), entry("ab", 1, 1, "w")}, "\x00\x02ab\x02\x01\x01v" + "\x02\x00\x01\x01\x01w" + one},
		{"behind the empty key", []api.Entry{entry("", 0, 0, ""), entry("\x00", 0, 0, "")}, "\x00\x00\x00\x00\x00" + "\x00\x01\x00\x00\x00\x00" + one},
		{"the empty key twice", []api.Entry{entry("", 7, 0, ""), entry("", 6, 0, "")}, "\x00\x00\x07\x00\x00" + "\x00\x00\x06\x00\x00" + one},
		{"128 bytes shared", []api.Entry{entry(x(128), 0, 1, ""), entry(x(129), 0, 1, "")}, "\x00\x80\x01" + x(128) + "\x00\x01\x00" + "\x80\x01\x01x\x00\x01\x00" + one},
		{"eight", plain(8), eight + one},
		{"nine", plain(9), eight + "\x00\x03kei\x01\x01\x01v" + fixed(0, 58, 2)},
		{"ten", plain(10), eight + "\x00\x03kei\x01\x01\x01v" + "\x02\x01j\x01\x01\x01v" + fixed(0, 58, 2)},
	} {
		s, e := block.Make(c.l)
		same(t, c.what, s, sealed(c.s))
		want(t, c.what+": Make", e, api.OK)
		if got := slices.Collect(opened(t, sealed(c.s)).All()); !slices.Equal(got, c.l) {
			t.Errorf("%s: %#v, wanted %#v", c.what, got, c.l)
		}
	}
}

// TestStarts: P10.1, every eighth one is one, though its key is that of the one ahead; their places go beyond two bytes.
func TestStarts(t *testing.T) {
	var l []api.Entry
	all, starts, count := "", "", 0
	for i := range 100 {
		n := uint64(127 - i)
		l = append(l, entry("same", n, 1, x(1000)))
		if i%8 == 0 {
			starts += fixed(uint32(len(all)))
			count++
			all += "\x00\x04same"
		} else {
			all += "\x04\x00"
		}
		all += string([]byte{byte(n), 1}) + "\xe8\x07" + x(1000)
	}
	want(t, "starts", count, 13)
	s, e := block.Make(l)
	same(t, "a hundred", s, sealed(all+starts+fixed(13)))
	want(t, "Make", e, api.OK)
}

// TestMakeErrors: P10.1, entry by entry, and which comes first.
func TestMakeErrors(t *testing.T) {
	a := entry("a", 5, 1, "v")
	odd := func(kind int) api.Entry { return entry("b", 5, kind, "v") }
	for _, c := range []struct {
		what string
		l    []api.Entry
		want api.Errno
	}{
		{"the same key, number and kind", []api.Entry{a, a}, api.ErrOrder},
		{"another value", []api.Entry{a, entry("a", 5, 1, "w")}, api.ErrOrder},
		{"the zero one twice", []api.Entry{{}, {}}, api.ErrOrder},
		{"a lesser key", []api.Entry{odd(1), a}, api.ErrOrder},
		{"a key that begins the one ahead", []api.Entry{entry("aa", 5, 1, ""), a}, api.ErrOrder},
		{"a key that goes on", []api.Entry{a, entry("a\x00", 5, 1, "")}, api.OK},
		{"keys as bytes", []api.Entry{entry("\x7f", 5, 1, ""), entry("\x80", 5, 1, ""), entry("\xff", 5, 1, "")}, api.OK},
		{"a greater number", []api.Entry{a, entry("a", 6, 1, "v")}, api.ErrOrder},
		{"a lesser number", []api.Entry{a, entry("a", 4, 1, "v")}, api.OK},
		{"the utmost number behind", []api.Entry{a, entry("a", math.MaxUint64, 1, "v")}, api.ErrOrder},
		{"the utmost number ahead", []api.Entry{entry("a", math.MaxUint64, 1, "v"), entry("a", 1<<63, 1, ""), a}, api.OK},
		{"a greater kind", []api.Entry{a, entry("a", 5, 2, "v")}, api.ErrOrder},
		{"a lesser kind", []api.Entry{a, entry("a", 5, 0, "v")}, api.OK},
		{"all kinds", []api.Entry{entry("a", 5, 255, ""), entry("a", 5, 128, ""), entry("a", 5, 2, ""), a, entry("a", 5, 0, "")}, api.OK},
		{"a greater key with a greater number and kind", []api.Entry{a, entry("b", 6, 2, "v")}, api.OK},
		{"the last of many", append(plain(17), plain(1)...), api.ErrOrder},
		{"a start", append(plain(8), plain(8)[7]), api.ErrOrder},
		{"a start below the one ahead", append(plain(16), plain(8)[0]), api.ErrOrder},

		{"the kind -1", []api.Entry{odd(-1)}, api.ErrKind},
		{"the kind 0", []api.Entry{odd(0)}, api.OK},
		{"the kind 255", []api.Entry{odd(255)}, api.OK},
		{"the kind 256", []api.Entry{odd(256)}, api.ErrKind},
		{"a kind that is 1 in its lowest byte", []api.Entry{odd(257)}, api.ErrKind},
		{"a kind that is 1 in its lowest half", []api.Entry{odd(1<<32 + 1)}, api.ErrKind},
		{"a kind below 0 that is 1 in its lowest byte", []api.Entry{odd(-255)}, api.ErrKind},
		{"the least kind", []api.Entry{odd(math.MinInt)}, api.ErrKind},
		{"the greatest kind", []api.Entry{odd(math.MaxInt)}, api.ErrKind},
		{"the last one's kind", append(plain(17), entry("z", 0, 256, "")), api.ErrKind},
		{"a start's kind", append(plain(8), entry("z", 0, -1, "")), api.ErrKind},

		{"both, in one", []api.Entry{odd(1), entry("a", 5, 256, "")}, api.ErrOrder},
		{"both, in one of the same key", []api.Entry{a, entry("a", 5, 256, "")}, api.ErrOrder},
		{"both, in one whose kind stands behind", []api.Entry{a, entry("a", 5, -1, "")}, api.ErrKind},
		{"a kind, then the order", []api.Entry{odd(256), a}, api.ErrKind},
		{"a kind, then the order, far behind", append([]api.Entry{entry("", 0, -1, "")}, append(plain(9), a)...), api.ErrKind},
		{"the order, then a kind", []api.Entry{odd(1), a, entry("c", 5, -1, "")}, api.ErrOrder},
		{"two kinds, in the wrong order", []api.Entry{odd(300), entry("a", 5, -1, "")}, api.ErrKind},
	} {
		s, e := block.Make(c.l)
		want(t, c.what, e, c.want)
		if c.want != api.OK {
			same(t, c.what, s, "")
			continue
		}
		same(t, c.what, s, written(c.l))
	}
}

// TestKinds: P10.1, each from 0 to 255, as it was.
func TestKinds(t *testing.T) {
	for kind := -300; kind <= 600; kind++ {
		e := entry("k", 1, kind, "v")
		s, err := block.Make([]api.Entry{e})
		if kind < 0 || kind > 255 {
			want(t, fmt.Sprint("kind ", kind), err, api.ErrKind)
			continue
		}
		got, ok := opened(t, s).Last()
		want(t, fmt.Sprint("kind ", kind), got, e)
		want(t, "there", ok, true)
	}
}

// TestListStays: what is handed in does, spare room included.
func TestListStays(t *testing.T) {
	l := append(plain(12), entry("spare", 1, 1, "room"))
	kept := slices.Clone(l)
	for range 2 {
		s, _ := block.Make(l[:12])
		same(t, "made", s, written(kept[:12]))
		want(t, "the entries stay", slices.Equal(l, kept), true)
	}
}
