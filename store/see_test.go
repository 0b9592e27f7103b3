package store_test

import (
	"fmt"
	"math"
	"slices"
	"testing"
	"unsafe"

	"bourse/api"
	"bourse/disk"
	"bourse/store"
	"bourse/version"
)

// TestSnap: P17.4, handles from 1 on, one more each time, each with the number that was the last one then.
func TestSnap(t *testing.T) {
	d := fresh(t)
	s := opened(t, d, store.Options{})
	there := map[int]uint64{}
	check := func() {
		t.Helper()
		for h := -2; h < 12; h++ {
			at, e := s.At(h)
			wanted, ok := there[h]
			want(t, fmt.Sprint("the number of ", h), at, wanted)
			want(t, fmt.Sprint("At ", h), e == api.OK, ok)
			if !ok {
				want(t, fmt.Sprint("the error of ", h), e, api.ErrHandle)
			}
		}
		for _, h := range []int{math.MinInt, math.MaxInt} {
			_, e := s.At(h)
			want(t, "beyond all", e, api.ErrHandle)
			want(t, "Close beyond all", s.Close(h), api.ErrHandle)
		}
	}
	snap := func(wanted int) {
		t.Helper()
		steps := d.Steps()
		h := s.Snap()
		want(t, "Snap", h, wanted)
		there[h] = s.Seq()
		want(t, "steps", d.Steps(), steps)
		check()
	}
	unsnap := func(h int, wanted api.Errno) {
		t.Helper()
		want(t, fmt.Sprint("Close ", h), s.Close(h), wanted)
		delete(there, h)
		check()
	}
	check()
	unsnap(1, api.ErrHandle)
	unsnap(0, api.ErrHandle)
	snap(1)
	snap(2)
	done(t, s.Write(put("a", "1"), put("b", "2")))
	snap(3)
	unsnap(2, api.OK)
	unsnap(2, api.ErrHandle)
	done(t, s.Flush())
	snap(4)
	done(t, s.Write(del("a")))
	unsnap(4, api.OK)
	snap(5)
	unsnap(-1, api.ErrHandle)
	unsnap(6, api.ErrHandle)
	unsnap(1, api.OK)
	done(t, s.Compact(0, 0))
	snap(6)
	s = opened(t, d, store.Options{})
	clear(there)
	check()
	snap(1)
	d.Fault(0)
	want(t, "a fault", s.Write(put("c", "")), api.ErrIO)
	snap(2)
	unsnap(1, api.OK)
	unsnap(1, api.ErrHandle)
}

// scattered: what was written stands in all places: a memo, tables of all levels.
func scattered(t *testing.T) (*store.Store, past) {
	t.Helper()
	_, s, p := begun(t, store.Options{Block: 40, Table: 4})
	return s, p
}

// TestRanges: P17.4, all bounds at, between and beyond keys, rising and falling, at the last number, and at numbers above it.
func TestRanges(t *testing.T) {
	s, p := scattered(t)
	bounds := []string{"", "\x00", "a", "a\x00", "aa", "b", "c", "d", "dd", "e", "f", "g", "g\xff", "h", "hh", "zz", "\xff"}
	for _, at := range []uint64{p.seq(), p.seq() + 1, math.MaxUint64} {
		for _, from := range bounds {
			for _, to := range bounds {
				what := fmt.Sprintf("from %q to %q at %d", from, to, at)
				wanted := within(p.seen(at), from, to)
				row(t, what, s.Range(from, to, at), wanted...)
				row(t, what+", falling", s.Down(from, to, at), turned(wanted)...)
			}
		}
	}
	row(t, "at 0", s.Range("", "", 0))
	row(t, "at 0, falling", s.Down("", "", 0))
	_, ok := s.Get("b", 0)
	want(t, "at 0", ok, false)
}

// TestSeenAtAll: P17.4, of what no Compact has dropped all is seen at each number.
func TestSeenAtAll(t *testing.T) {
	d := fresh(t)
	s := opened(t, d, store.Options{Block: 30})
	c := dice(7)
	p := past{}
	for i := range 60 {
		l := c.changes(3)
		done(t, s.Write(l...))
		p = p.with(l...)
		if i%7 == 3 {
			done(t, s.Flush())
		}
	}
	for at := range p.seq() + 2 {
		sees(t, "flushed", s, p, at)
	}
	s = opened(t, d, store.Options{})
	for at := range p.seq() + 2 {
		sees(t, "opened anew", s, p, at)
	}
}

// TestLongKeys: P17.4, keys that can't be there.
func TestLongKeys(t *testing.T) {
	s, p := scattered(t)
	for _, k := range []string{"", x(86), x(1000), "a" + x(200), "\x00", "\xff"} {
		v, ok := s.Get(k, p.seq())
		want(t, "Get", v == "" && !ok, true)
		want(t, "Range", len(slices.Collect(s.Range(k, "", p.seq()))), len(within(p.seen(p.seq()), k, "")))
		want(t, "Down", len(slices.Collect(s.Down(k, x(500), p.seq()))), len(within(p.seen(p.seq()), k, x(500))))
	}
}

// TestRowsLater: rows go through what is there when they are gone through, may be left anywhere, and within one another.
func TestRowsLater(t *testing.T) {
	d := fresh(t)
	s := opened(t, d, store.Options{})
	p := past{}
	up, down := s.Range("a", "x", math.MaxUint64), s.Down("a", "x", math.MaxUint64)
	check := func(what string) {
		t.Helper()
		wanted := within(p.seen(p.seq()), "a", "x")
		row(t, what, up, wanted...)
		row(t, what+", falling", down, turned(wanted)...)
	}
	check("nothing")
	for i := range 12 {
		c := put(string(rune('a'+i*5%7)), fmt.Sprint(i))
		done(t, s.Write(c))
		p = p.with(c)
		check("written")
		if i%3 == 2 {
			done(t, s.Flush())
			check("flushed")
		}
		if i%5 == 4 {
			done(t, s.Compact(0, 0))
			check("put together")
		}
	}
	wanted := within(p.seen(p.seq()), "a", "x")
	for n := range len(wanted) {
		k := 0
		for x := range up {
			want(t, "left", x, wanted[k])
			if k++; k > n {
				break
			}
		}
		k = 0
		for x := range down {
			want(t, "left, falling", x, wanted[len(wanted)-1-k])
			if k++; k > n {
				break
			}
		}
	}
	pairs := 0
	for a := range up {
		for b := range down {
			if b.Key < a.Key {
				break
			}
			pairs++
		}
	}
	want(t, "within one another", pairs, len(wanted)*(len(wanted)+1)/2)
}

// TestNil: P17.4, of nil ErrNil, zero, empty rows; ReadOnly true.
func TestNil(t *testing.T) {
	var s *store.Store
	want(t, "Write", s.Write(put("a", "")), api.ErrNil)
	want(t, "Write of nothing", s.Write(), api.ErrNil)
	want(t, "Write of what is refused", s.Write(put(x(86), "")), api.ErrNil)
	want(t, "Flush", s.Flush(), api.ErrNil)
	want(t, "Compact", s.Compact(0, 0), api.ErrNil)
	want(t, "Snap", s.Snap(), 0)
	want(t, "Close", s.Close(1), api.ErrNil)
	at, e := s.At(1)
	want(t, "At", at == 0 && e == api.ErrNil, true)
	v, ok := s.Get("a", 1)
	want(t, "Get", v == "" && !ok, true)
	row(t, "Range", s.Range("", "", 1))
	row(t, "Down", s.Down("", "", 1))
	o := s.Options()
	want(t, "Options", o.Memo == 0 && o.Block == 0 && o.Table == 0 && len(o.Heights) == 0, true)
	want(t, "Seq", s.Seq(), 0)
	want(t, "Version", version.Same(s.Version(), version.Version{}), true)
	want(t, "Memo", s.Memo(), 0)
	want(t, "ReadOnly", s.ReadOnly(), true)
	want(t, "Files", len(s.Files()), 0)
}

// TestOptions: P17.4, Options tells what was handed in.
func TestOptions(t *testing.T) {
	for _, o := range []store.Options{{}, {Memo: 1, Block: 2, Table: 3, Heights: []int{4, 5}}, {Memo: -1, Block: math.MinInt, Table: math.MaxInt, Heights: []int{-1}}} {
		s := opened(t, fresh(t), o)
		got := s.Options()
		want(t, "Options", got.Memo == o.Memo && got.Block == o.Block && got.Table == o.Table, true)
		list(t, "Heights", got.Heights, o.Heights...)
	}
}

// TestFiles: P17.4, names rise as texts.
func TestFiles(t *testing.T) {
	d := fresh(t)
	s := opened(t, d, store.Options{})
	for i := range 4 {
		done(t, s.Write(put("a", fmt.Sprint(i))), s.Flush())
	}
	list(t, "Files", s.Files(), "l-10", "m-2", "t-3", "t-5", "t-7", "t-9")
	done(t, s.Write(put("a", "")), s.Flush())
	list(t, "Files", s.Files(), "l-12", "m-2", "t-11", "t-3", "t-5", "t-7", "t-9")
	list(t, "Numbers", s.Version().Numbers(), 3, 5, 7, 9, 11)
}

// TestMemory: what is handed in stays, and isn't kept; answers share none.
func TestMemory(t *testing.T) {
	heights := []int{3, 1, 99}
	o := store.Options{Heights: heights[:2]}
	d := fresh(t)
	s := opened(t, d, o)
	list(t, "what was handed in", heights, 3, 1, 99)
	clear(heights)
	got := s.Options()
	list(t, "Heights", got.Heights, 3, 1)
	clear(got.Heights)
	list(t, "Heights again", s.Options().Heights, 3, 1)

	l := []api.Change{put("a", "1"), put("b", "2"), put("spare", "room")}
	done(t, s.Write(l[:2]...))
	list(t, "what was written", l, put("a", "1"), put("b", "2"), put("spare", "room"))
	clear(l)
	p := past{}.with(put("a", "1"), put("b", "2"))
	holds(t, "behind a change", s, p)
	for range 2 {
		a, _ := s.Get("a", 9)
		b, _ := s.Get("a", 9)
		want(t, "values that are shared", unsafe.StringData(a) == unsafe.StringData(b), false)
		k, j := slices.Collect(s.Range("", "", 9)), slices.Collect(s.Down("", "", 9))
		want(t, "keys that are shared", unsafe.StringData(k[0].Key) == unsafe.StringData(j[1].Key), false)
		if s.Memo() > 0 {
			done(t, s.Flush())
		}
	}
	v := s.Version()
	clear(v.Levels[0])
	want(t, "the version", s.Version().Levels[0][0].Count, 2)
	files := s.Files()
	clear(files)
	want(t, "Files", s.Files()[0] != "" && unsafe.StringData(s.Files()[0]) != unsafe.StringData(s.Files()[0]), true)
	holds(t, "at last", s, p)
}

// TestTwoDisks: what one store does isn't seen by that of another disk.
func TestTwoDisks(t *testing.T) {
	var disks []*disk.Disk
	var stores []*store.Store
	for range 2 {
		disks = append(disks, fresh(t))
		stores = append(stores, opened(t, disks[len(disks)-1], store.Options{Memo: 30}))
	}
	a, b := past{}, past{}
	for i := range 10 {
		done(t, stores[0].Write(put("a", fmt.Sprint(i))), stores[1].Write(put("b", fmt.Sprint(i)), del("a")))
		a, b = a.with(put("a", fmt.Sprint(i))), b.with(put("b", fmt.Sprint(i)), del("a"))
	}
	disks[1].Fault(0)
	want(t, "a fault", stores[1].Write(put("c", "")), api.ErrIO)
	holds(t, "the one", stores[0], a)
	sound(t, "the one", disks[0], stores[0])
	shut(t, "the other", disks[1], stores[1], b)
}
