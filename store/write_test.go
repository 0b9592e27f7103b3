package store_test

import (
	"fmt"
	"math"
	"slices"
	"testing"

	"bourse/api"
	"bourse/batch"
	"bourse/disk"
	"bourse/frame"
	"bourse/manifest"
	"bourse/store"
)

// TestWrite: P17.2, by hand: each Write is a record of the log, synced; all of it is seen.
func TestWrite(t *testing.T) {
	d := fresh(t)
	s := opened(t, d, store.Options{})
	p, log, size := past{}, "", 0
	for _, l := range [][]api.Change{
		{put("a", "1")},
		{put("b", "2"), put("a", "3")},
		{del("a"), del("never")},
		{put("a", ""), put("a", "4"), del("a"), put("a", "5")},
		{put("\x00", "\x00\xff"), put("\xff", "")},
		{put(x(85), x(4096)), del(x(84))},
		slices.Repeat([]api.Change{put("many", x(9)), del("many")}, 1000),
	} {
		record, e := batch.Batch{Seq: p.seq() + 1, Changes: l}.Bytes()
		want(t, "Bytes", e, api.OK)
		log += frame.Lay(len(log), record)
		p = p.with(l...)
		for _, c := range l {
			size += len(c.Key) + len(c.Value) + 8
		}
		steps := d.Steps()
		want(t, "Write", s.Write(l...), api.OK)
		want(t, "steps", d.Steps()-steps, 2)
		want(t, "the log", read(t, d, "l-1"), log)
		want(t, "Memo", s.Memo(), size)
		holds(t, "Write", s, p)
		sound(t, "Write", d, s)
	}
}

// TestWriteNothing: P17.2, without changes OK, and nothing is written.
func TestWriteNothing(t *testing.T) {
	d := fresh(t)
	s := opened(t, d, store.Options{Memo: -1})
	steps := d.Steps()
	want(t, "nothing", s.Write(), api.OK)
	want(t, "an empty list", s.Write([]api.Change{}...), api.OK)
	want(t, "steps", d.Steps(), steps)
	want(t, "Seq", s.Seq(), 0)
	d.Fuse(0)
	want(t, "nothing, without power", s.Write(), api.OK)
	want(t, "ReadOnly", s.ReadOnly(), false)
	d.Crash(nil)

	d = fresh(t)
	told(t, d, 1, manifest.State{Seq: batch.Top})
	want(t, "nothing, without numbers", opened(t, d, store.Options{}).Write(), api.OK)
}

// TestWriteRefused: P17.2, ErrKey of keys longer than 85 ahead of layer 6's errors; what is refused changes nothing.
func TestWriteRefused(t *testing.T) {
	d := fresh(t)
	s := opened(t, d, store.Options{Memo: 1 << 20})
	done(t, s.Write(put("a", "1")))
	p := past{}.with(put("a", "1"))
	for _, c := range []struct {
		what string
		l    []api.Change
		want api.Errno
	}{
		{"a key of 86", []api.Change{put(x(86), "")}, api.ErrKey},
		{"a key of 86 that goes", []api.Change{del(x(86))}, api.ErrKey},
		{"a key of 86 at last", []api.Change{put("b", ""), del("c"), put(x(86), "")}, api.ErrKey},
		{"a key of 86 behind a kind that isn't", []api.Change{{Kind: 3, Key: "a"}, put(x(86), "")}, api.ErrKey},
		{"a key of 86 behind a value of 4097", []api.Change{put("a", x(4097)), put(x(86), "")}, api.ErrKey},
		{"a key of 86 of 2001 changes", append(slices.Repeat([]api.Change{del("a")}, 2000), put(x(86), "")), api.ErrKey},
		{"a key of 86 of a kind that isn't", []api.Change{{Kind: 0, Key: x(86)}}, api.ErrKey},
		{"2001 changes", slices.Repeat([]api.Change{del("a")}, 2001), api.ErrMany},
		{"2001 changes without keys", slices.Repeat([]api.Change{put("", "")}, 2001), api.ErrMany},
		{"the kind 0", []api.Change{{Key: "a"}}, api.ErrKind},
		{"the kind 3", []api.Change{put("b", ""), {Kind: 3, Key: "a"}}, api.ErrKind},
		{"the kind -1", []api.Change{{Kind: -1, Key: ""}}, api.ErrKind},
		{"no key", []api.Change{put("", "")}, api.ErrKey},
		{"no key at last", []api.Change{put("b", ""), del("")}, api.ErrKey},
		{"a value of 4097", []api.Change{put("b", ""), put("a", x(4097))}, api.ErrLong},
		{"a value of a Delete", []api.Change{{Kind: api.Delete, Key: "a", Value: "v"}}, api.ErrLong},
	} {
		steps := d.Steps()
		d.Fault(0) // none of the disk's errors comes ahead
		want(t, c.what, s.Write(c.l...), c.want)
		d.Fault(-1)
		want(t, c.what+": steps", d.Steps(), steps)
		holds(t, c.what, s, p)
		sound(t, c.what, d, s)
	}
	done(t, s.Write(slices.Repeat([]api.Change{put(x(85), "")}, 2000)...))
	holds(t, "2000 of 85", s, p.with(slices.Repeat([]api.Change{put(x(85), "")}, 2000)...))
}

// TestWriteRange: P17.2, layer 6's ErrRange of the number behind the last one, behind its other errors; no number goes round.
func TestWriteRange(t *testing.T) {
	for _, seq := range []uint64{batch.Top - 2, batch.Top - 1, batch.Top, batch.Top + 1, math.MaxUint64 - 1, math.MaxUint64} {
		what := fmt.Sprint("behind ", seq)
		d := fresh(t)
		told(t, d, 1, manifest.State{Seq: seq})
		s := opened(t, d, store.Options{})
		want(t, what+": Seq", s.Seq(), seq)
		want(t, what+": a kind that isn't", s.Write(api.Change{Key: "a"}), api.ErrKind)
		want(t, what+": a key of 86", s.Write(put(x(86), "")), api.ErrKey)
		want(t, what+": 2001", s.Write(slices.Repeat([]api.Change{del("a")}, 2001)...), api.ErrMany)
		left := batch.Top - min(seq, batch.Top)
		want(t, what+": one too many", s.Write(slices.Repeat([]api.Change{put("a", "1")}, int(left)+1)...), api.ErrRange)
		want(t, what+": Seq behind it", s.Seq(), seq)
		_, ok := s.Get("a", math.MaxUint64)
		want(t, what+": nothing is there", ok, false)
		if left > 0 {
			done(t, s.Write(slices.Repeat([]api.Change{put("a", "1")}, int(left))...))
			want(t, what+": the last number", s.Seq(), batch.Top)
			s = opened(t, d, store.Options{})
			v, ok := s.Get("a", batch.Top)
			want(t, what+": it is there", v == "1" && ok && s.Seq() == batch.Top, true)
		}
		want(t, what+": no more", s.Write(put("a", "")), api.ErrRange)
		want(t, what+": ReadOnly", s.ReadOnly(), false)
	}
}

// TestWriteErrors: P17.2, layer 16's errors: it is closed to changes, and nothing is changed.
func TestWriteErrors(t *testing.T) {
	begun := func() (*disk.Disk, *store.Store, past) {
		d := fresh(t)
		s := opened(t, d, store.Options{Memo: 40})
		done(t, s.Write(put("a", "1"), put("b", "2")), s.Flush(), s.Write(put("a", "3")))
		return d, s, past{}.with(put("a", "1"), put("b", "2"), put("a", "3"))
	}
	l := []api.Change{put("a", "4"), del("b"), put("c", x(50))}
	for n := range 2 {
		for _, wanted := range []api.Errno{api.ErrIO, api.ErrPower} {
			what := fmt.Sprintf("%v at the step %d", wanted, n)
			d, s, p := begun()
			if wanted == api.ErrIO {
				d.Fault(n)
			} else {
				d.Fuse(n)
			}
			steps := d.Steps()
			want(t, what, s.Write(l...), wanted)
			want(t, what+": steps", d.Steps()-steps, n)
			shut(t, what, d, s, p)
			d.Crash(nil)
			shut(t, what+", behind a crash", d, s, p)
			holds(t, what+", opened anew", opened(t, d, store.Options{}), p)
		}
	}
	d, s, p := begun()
	d.Room(d.Used() + 10)
	want(t, "full", s.Write(l...), api.ErrFull)
	d.Room(1 << 20)
	shut(t, "full", d, s, p)
	s = opened(t, d, store.Options{})
	holds(t, "full, opened anew", s, p)
	done(t, s.Write(l...))
	holds(t, "full, and room again", s, p.with(l...))
	d, s, p = begun()
	done(t, d.Delete(s.Files()[0]))
	want(t, "the log is gone", s.Write(l...), api.ErrNone)
	shut(t, "the log is gone", d, s, p)
}

// TestWriteFlushes: P17.2, at as many bytes as the option Memo tells it is flushed by itself, behind all changes; 0: never.
func TestWriteFlushes(t *testing.T) {
	for _, x := range []struct {
		memo  int
		after []int // how many tables there are behind each Write
	}{
		{0, []int{0, 0, 0, 0, 0}},
		{1, []int{1, 2, 3, 4, 5}},
		{10, []int{1, 2, 3, 4, 5}},
		{11, []int{0, 1, 1, 2, 2}},
		{20, []int{0, 1, 1, 2, 2}},
		{21, []int{0, 0, 1, 1, 1}},
		{30, []int{0, 0, 1, 1, 1}},
		{31, []int{0, 0, 0, 1, 1}},
		{1 << 40, []int{0, 0, 0, 0, 0}},
		{math.MaxInt, []int{0, 0, 0, 0, 0}},
		{-1, []int{1, 2, 3, 4, 5}},
		{math.MinInt, []int{1, 2, 3, 4, 5}},
	} {
		d := fresh(t)
		s := opened(t, d, store.Options{Memo: x.memo})
		p := past{}
		for i, tables := range x.after {
			what := fmt.Sprintf("at %d, behind %d", x.memo, i)
			done(t, s.Write(put("k", fmt.Sprint(i))))
			p = p.with(put("k", fmt.Sprint(i)))
			want(t, what+": tables", s.Version().Count(), tables)
			sound(t, what, d, s)
			holds(t, what, s, p)
		}
	}

	d := fresh(t)
	s := opened(t, d, store.Options{Memo: 20})
	l := slices.Repeat([]api.Change{put("a", "1"), del("a")}, 50)
	steps := d.Steps()
	done(t, s.Write(l...))
	want(t, "steps", d.Steps()-steps, 2+7)
	want(t, "all of it", s.Memo() == 0 && s.Version().Count() == 1 && s.Version().Levels[0][0].Count == 100, true)
	holds(t, "all of it", s, past{}.with(l...))
}

// TestWriteCrowded: P17.2, at 2^15 entries it is flushed, whatever the option.
func TestWriteCrowded(t *testing.T) {
	for _, memo := range []int{0, 1 << 40} {
		d := fresh(t)
		s := opened(t, d, store.Options{Memo: memo, Block: 1000, Heights: []int{1, 2, 1, 3, 1, 2, 1, 4, 1, 2, 1, 3, 1, 2, 1, 9}})
		n := 0
		write := func(k int) {
			var l []api.Change
			for range k {
				l = append(l, put(fmt.Sprintf("%05d", n), ""))
				n++
			}
			done(t, s.Write(l...))
		}
		for range 16 {
			write(2000)
		}
		write(767)
		want(t, "2^15 less one", s.Version().Count(), 0)
		want(t, "Memo", s.Memo(), (1<<15-1)*13)
		write(1)
		want(t, "2^15", s.Version().Count(), 1)
		want(t, "Memo behind it", s.Memo(), 0)
		want(t, "Seq", s.Seq(), 1<<15)
		for range 17 {
			write(2000)
		}
		want(t, "some more", s.Version().Count(), 2)
		want(t, "all of them", s.Version().Levels[0][0].Count, 34000)
		sound(t, "crowded", d, s)
		k := 0
		for p := range s.Range("", "", s.Seq()) {
			if p.Key != fmt.Sprintf("%05d", k) {
				t.Fatalf("%s, wanted %d", p.Key, k)
			}
			k++
		}
		want(t, "keys", k, n)
	}
}

// TestWriteFlushFails: P17.2, an error of the Flush isn't told; it is closed to changes.
func TestWriteFlushFails(t *testing.T) {
	for n := 2; n < 9; n++ {
		for _, power := range []bool{false, true} {
			what := fmt.Sprintf("the step %d, power %v", n, power)
			d := fresh(t)
			s := opened(t, d, store.Options{Memo: 20})
			done(t, s.Write(put("a", "1")))
			if power {
				d.Fuse(n)
			} else {
				d.Fault(n)
			}
			want(t, what, s.Write(put("b", "2")), api.OK)
			p := past{}.with(put("a", "1"), put("b", "2"))
			shut(t, what, d, s, p)
			want(t, what+": its files", s.Version().Count(), min(1, n/8))
			d.Crash(nil)
			holds(t, what+", opened anew", opened(t, d, store.Options{}), p)
		}
	}
}

// TestHeights: P17.2, the towers' heights change nothing of what is told.
func TestHeights(t *testing.T) {
	for _, heights := range [][]int{nil, {1}, {12}, {0}, {-5, 100, math.MinInt, math.MaxInt}, {1, 2, 3}} {
		d := fresh(t)
		s := opened(t, d, store.Options{Memo: 300, Heights: heights})
		c := dice(1)
		p := past{}
		for range 60 {
			l := c.changes(4)
			done(t, s.Write(l...))
			p = p.with(l...)
		}
		holds(t, fmt.Sprint("heights ", heights), s, p)
		list(t, "its options", s.Options().Heights, heights...)
		sound(t, "heights", d, s)
	}
}

// TestFilesAreFull: P17.2, P17.3, a disk with as many files as it may have: what is written lasts all the same.
func TestFilesAreFull(t *testing.T) {
	d := fresh(t)
	s := opened(t, d, store.Options{Memo: 1})
	p := past{}
	for i := 0; !s.ReadOnly(); i++ {
		c := put(fmt.Sprint("k", i%50), fmt.Sprint(i))
		want(t, "Write", s.Write(c), api.OK)
		p = p.with(c)
	}
	want(t, "files", len(d.List()), api.MaxFiles)
	shut(t, "no more files", d, s, p)

	// Opened anew it needs four files more than it has.
	refuses(t, "no more files", d, api.ErrMany)
	shut(t, "no more files, still", d, s, p)
}
