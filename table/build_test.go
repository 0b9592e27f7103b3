package table_test

import (
	"encoding/hex"
	"fmt"
	"math"
	"slices"
	"strings"
	"testing"

	"bourse/api"
	"bourse/bloom"
	"bourse/table"
)

func x(n int) string { return strings.Repeat("x", n) }

// plain: so many entries of a key each, whose numbers go up to n.
func plain(n int) []api.Entry {
	var l []api.Entry
	for i := range n {
		l = append(l, entry(fmt.Sprintf("key%03d", i), uint64(n-i), 1+i%2, "v"))
	}
	return l
}

// versions: so many entries of one key.
func versions(key string, n int) []api.Entry {
	var l []api.Entry
	for i := range n {
		l = append(l, entry(key, uint64(2*(n-i)), 1, fmt.Sprint(i)))
	}
	return l
}

// sizes: below 0, small, some, and greater than all.
func sizes() []int {
	return []int{math.MinInt, -1, 0, 1, 8, 20, 24, 25, 26, 40, 64, 100, 200, 512, 1000, 4096, 1 << 31, math.MaxInt - 1, math.MaxInt}
}

// TestBuildNone: P11.1, of no entries, whatever the size.
func TestBuildNone(t *testing.T) {
	for _, l := range [][]api.Entry{nil, {}, plain(3)[:0]} {
		for _, size := range sizes() {
			s, e := table.Build(l, size)
			same(t, "no entries", s, "")
			want(t, "no entries", e, api.ErrNone)
		}
	}
}

// TestBytesByHand: P11.1, the bytes of whole tables, reckoned apart from the program: data blocks, index, filter, foot.
func TestBytesByHand(t *testing.T) {
	three := []api.Entry{entry("ka", 9, 1, "v"), entry("ka", 3, 2, ""), entry("kb", 300, 1, "ww")}
	for _, c := range []struct {
		what  string
		l     []api.Entry
		sizes []int
		s     string
	}{
		{"one", []api.Entry{entry("key", 5, 1, "value")}, []int{math.MinInt, -1, 0, 1, 24, 25, 26, math.MaxInt},
			"00036b6579" + "05" + "01" + "0576616c7565" + "00000000" + "01000000" + "4748bddb" + // from 0, 25 bytes
				"00036b6579" + "05" + "01" + "020019" + "00000000" + "01000000" + "84434f3a" + // from 25, 22 bytes
				"0000000000302110" + // from 47, 8 bytes
				"1900000000000000" + "1600000000000000" + "2f00000000000000" + "0800000000000000" + "0100000000000000" +
				"626f757273652e74" + "09cc973a"},
		{"three, each in a block", three, []int{math.MinInt, -1, 0, 1, 20, 21, 22, 24},
			"00026b61" + "09" + "01" + "0176" + "00000000" + "01000000" + "6a80e99e" + // from 0, 20 bytes
				"00026b61" + "03" + "02" + "00" + "00000000" + "01000000" + "e7579abd" + // from 20, 19 bytes
				"00026b62" + "ac02" + "01" + "027777" + "00000000" + "01000000" + "c8511527" + // from 39, 22 bytes
				"00026b61" + "09" + "01" + "020014" + "0200" + "03" + "02" + "021413" + "010162" + "ac02" + "01" + "022716" + "00000000" + "01000000" + "e1441b08" +
				"0840110009c11101" + // of the two keys
				"3d00000000000000" + "2500000000000000" + "6200000000000000" + "0800000000000000" + "0300000000000000" +
				"626f757273652e74" + "af910101"},
		{"three in one block", three, []int{34, 35, 100, math.MaxInt},
			"00026b61" + "09" + "01" + "0176" + "0200" + "03" + "02" + "00" + "010162" + "ac02" + "01" + "027777" + "00000000" + "01000000" + "1e4557d9" + // from 0, 34 bytes
				"00026b62" + "ac02" + "01" + "020022" + "00000000" + "01000000" + "e5baff37" +
				"0840110009c11101" +
				"2200000000000000" + "1600000000000000" + "3800000000000000" + "0800000000000000" + "0300000000000000" +
				"626f757273652e74" + "10e33950"},
	} {
		b, err := hex.DecodeString(c.s)
		want(t, c.what, err, nil)
		for _, size := range c.sizes {
			s, e := table.Build(c.l, size)
			same(t, fmt.Sprint(c.what, ", size ", size), s, string(b))
			want(t, c.what, e, api.OK)
		}
		row(t, c.what, opened(t, string(b)).All(), c.l...)
	}
}

// TestOneIsOneBlock: the chapter's example.
func TestOneIsOneBlock(t *testing.T) {
	for _, e := range []api.Entry{{}, entry("k", 1, 1, "v"), entry(x(300), math.MaxUint64, 255, x(5000)), entry("", 0, 0, "v")} {
		for _, size := range sizes() {
			u := built(t, []api.Entry{e}, size)
			want(t, "Blocks", u.Blocks(), 1)
			row(t, "All", u.All(), e)
		}
	}
}

// TestFitsJustSo: P11.1, a block that has as many bytes as it may, one fewer and one more.
func TestFitsJustSo(t *testing.T) {
	l := plain(30)
	for n := 1; n < len(l); n++ {
		length := len(made(l[:n]))
		for _, c := range []struct{ size, first int }{{length, n}, {length - 1, max(n-1, 1)}, {length + 1, n}} {
			s, _ := table.Build(l, c.size)
			first := made(l[:c.first])
			want(t, fmt.Sprintf("%d entries, size %d of %d", n, c.size, length), strings.HasPrefix(s, first), true)
			same(t, "all", s, parted(blocks(l, c.size)...).bytes())
		}
	}
}

// TestSizes: P11.1, lists of many sorts in blocks of all sizes.
func TestSizes(t *testing.T) {
	var c chance = 1
	lists := [][]api.Entry{plain(1), plain(2), plain(9), plain(40), versions("same", 40), c.list(5), c.list(60)}
	for _, l := range lists {
		all := len(made(l))
		try := append(sizes(), all-1, all, all+1)
		for size := -2; size < min(all+3, 700); size += 1 + size/40 {
			try = append(try, size)
		}
		for _, size := range try {
			s, e := table.Build(l, size)
			want(t, "Build", e, api.OK)
			same(t, fmt.Sprint(len(l), " entries, size ", size), s, parted(blocks(l, size)...).bytes())
		}
	}
}

// TestGreatEntries: P11.1, those that alone are greater than the size have a block each; what is small beside them is kept together.
func TestGreatEntries(t *testing.T) {
	l := plain(20)
	for _, great := range [][]int{{0}, {19}, {7}, {3, 4}, {0, 9, 10, 19}} {
		m := slices.Clone(l)
		for _, i := range great {
			m[i].Value = x(1000)
		}
		s, _ := table.Build(m, 300)
		same(t, fmt.Sprint("great ones ", great), s, parted(blocks(m, 300)...).bytes())
		u := opened(t, s)
		row(t, "All", u.All(), m...)
		for _, i := range great {
			alone := parted(m[i : i+1])
			want(t, "a block of its own", strings.Contains(s, alone.blocks[0]), true)
		}
	}
	u := built(t, l, 1)
	want(t, "all of them greater", u.Blocks(), 20)
}

// TestMany: P11.1, P11.3, more entries than any block of a small table has, in few great blocks and in many small ones.
func TestMany(t *testing.T) {
	var l []api.Entry
	for i := range 30000 {
		l = append(l, entry(fmt.Sprintf("%06d", i/3), uint64(9-i%3), 1, fmt.Sprint("value ", i)))
	}
	all := len(made(l))
	for _, c := range []struct{ size, blocks int }{{math.MaxInt, 1}, {all, 1}, {all - 1, 2}, {all / 2, 3}} {
		u := built(t, l, c.size)
		want(t, "Blocks", u.Blocks(), c.blocks)
		want(t, "as it was", slices.Equal(slices.Collect(u.All()), l), true)
	}
	s, _ := table.Build(l, 512)
	same(t, "blocks of 512 bytes", s[:all/2], strings.Join(parted(blocks(l, 512)...).blocks, "")[:all/2])
	want(t, "as it was", slices.Equal(slices.Collect(opened(t, s).All()), l), true)
}

// TestBuildErrors: P11.1, layer 10's, entry by entry, in whatever blocks the entries would stand.
func TestBuildErrors(t *testing.T) {
	a, b, c, d := entry("a", 5, 1, "v"), entry("b", 5, 1, "v"), entry("c", 5, 1, "v"), entry("d", 5, 1, "v")
	odd := func(e api.Entry, kind int) api.Entry { return entry(e.Key, e.Seq, kind, e.Value) }
	for _, k := range []struct {
		what string
		l    []api.Entry
		want api.Errno
	}{
		{"the same twice", []api.Entry{a, a}, api.ErrOrder},
		{"another value alone", []api.Entry{a, entry("a", 5, 1, "w")}, api.ErrOrder},
		{"a lesser key", []api.Entry{b, a}, api.ErrOrder},
		{"a greater number", []api.Entry{a, entry("a", 6, 1, "v")}, api.ErrOrder},
		{"a greater kind", []api.Entry{a, odd(a, 2)}, api.ErrOrder},
		{"the zero one twice", []api.Entry{{}, {}}, api.ErrOrder},
		{"the second pair stands between the first", []api.Entry{a, c, b, d}, api.ErrOrder},
		{"the last one alone", append(plain(50), plain(1)...), api.ErrOrder},
		{"one behind many, the same as the last", append(plain(50), plain(50)[49]), api.ErrOrder},
		{"each falls", []api.Entry{d, c, b, a}, api.ErrOrder},
		{"the kind -1", []api.Entry{odd(a, -1)}, api.ErrKind},
		{"the kind 256", []api.Entry{odd(a, 256)}, api.ErrKind},
		{"the utmost kinds", []api.Entry{odd(a, math.MinInt), odd(b, math.MaxInt)}, api.ErrKind},
		{"the last one's kind", append(plain(50), odd(entry("z", 1, 1, ""), 257)), api.ErrKind},
		{"both in one", []api.Entry{b, odd(a, 256)}, api.ErrOrder},
		{"a kind, then the order", []api.Entry{odd(b, 256), a}, api.ErrKind},
		{"the order, then a kind", []api.Entry{b, a, odd(c, 256)}, api.ErrOrder},
		{"a kind, far ahead of the order", append(append([]api.Entry{odd(a, -1)}, plain(40)...), b), api.ErrKind},
		{"the order, far ahead of a kind", append(append([]api.Entry{b, a}, plain(40)...), odd(entry("z", 1, 1, ""), -1)), api.ErrOrder},
		{"the kinds 0 and 255", []api.Entry{odd(a, 255), odd(a, 0)}, api.OK},
	} {
		for _, size := range sizes() {
			s, e := table.Build(k.l, size)
			want(t, fmt.Sprint(k.what, ", size ", size), e, k.want)
			if k.want != api.OK {
				same(t, k.what, s, "")
			}
		}
	}
}

// TestKeysOnce: P11.1, the filter is that of the keys, each once: it has no more bits than they need.
func TestKeysOnce(t *testing.T) {
	for _, c := range []struct{ keys, times, bytes int }{{1, 1, 8}, {1, 50, 8}, {6, 9, 8}, {7, 1, 9}, {7, 9, 9}, {8, 3, 10}, {40, 2, 50}} {
		var l []api.Entry
		var once []string
		for i := range c.keys {
			key := fmt.Sprintf("key%02d", i)
			once = append(once, key)
			l = append(l, versions(key, c.times)...)
		}
		for _, size := range []int{-1, 1, 60, 200, math.MaxInt} {
			s, _ := table.Build(l, size)
			filter := s[len(s)-52-c.bytes : len(s)-52]
			same(t, fmt.Sprintf("%d keys, each %d times", c.keys, c.times), filter, bloom.Make(once))
			same(t, "how long it is told to be", s[len(s)-28:len(s)-20], string([]byte{byte(c.bytes), 0, 0, 0, 0, 0, 0, 0}))
			opened(t, s)
		}
	}
}

// TestListStays: what is handed in does, spare room included; the same is built each time.
func TestListStays(t *testing.T) {
	l := append(plain(20), entry("spare", 1, 1, "room"))
	kept := slices.Clone(l)
	first, _ := table.Build(l[:20], 90)
	for range 2 {
		s, _ := table.Build(l[:20], 90)
		same(t, "built", s, first)
		want(t, "the entries stay", slices.Equal(l, kept), true)
	}
}

// TestBuiltIsOpened: P11.3, as it was, whatever the size; and it is as many bytes as the same entries once more.
func TestBuiltIsOpened(t *testing.T) {
	var c chance = 7
	for n := 1; n < 40; n++ {
		l := c.list(n)
		for _, size := range append(sizes(), c.below(300), c.below(300)) {
			s, e := table.Build(l, size)
			want(t, "Build", e, api.OK)
			u := opened(t, s)
			parts := blocks(l, size)
			row(t, fmt.Sprint("size ", size), u.All(), l...)
			want(t, "Len", u.Len(), len(l))
			want(t, "Blocks", u.Blocks(), len(parts))
			again, _ := table.Build(slices.Collect(u.All()), size)
			same(t, "built again", again, s)
		}
	}
}
