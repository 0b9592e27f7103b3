package store_test

import (
	"fmt"
	"math"
	"slices"
	"testing"

	"bourse/api"
	"bourse/disk"
	"bourse/manifest"
	"bourse/store"
)

// deed: what is under way when the power goes, and what it writes.
type deed struct {
	what   string
	o      store.Options
	do     func(d *disk.Disk, s *store.Store) api.Errno
	writes []api.Change
}

func deeds() []deed {
	o := store.Options{Block: 60, Table: 4}
	full := store.Options{Block: 60, Table: 4, Memo: 55}
	l := []api.Change{put("a", "9"), del("b"), put("i", "new")}
	return []deed{
		{"Write", o, func(_ *disk.Disk, s *store.Store) api.Errno { return s.Write(l...) }, l},
		{"Write that flushes", full, func(_ *disk.Disk, s *store.Store) api.Errno { return s.Write(l...) }, l},
		{"Flush", o, func(_ *disk.Disk, s *store.Store) api.Errno { return s.Flush() }, nil},
		{"Compact(0, 0)", o, func(_ *disk.Disk, s *store.Store) api.Errno { return s.Compact(0, 0) }, nil},
		{"Compact(1, 0)", o, func(_ *disk.Disk, s *store.Store) api.Errno { return s.Compact(1, 0) }, nil},
		{"Compact(2, 0)", o, func(_ *disk.Disk, s *store.Store) api.Errno { return s.Compact(2, 0) }, nil},
		{"Open", o, func(d *disk.Disk, _ *store.Store) api.Errno { _, e := store.Open(d, o); return e }, nil},
	}
}

// either: a store has what was written ahead, or that and what was under way, whole; which of them.
func either(t *testing.T, what string, s *store.Store, ahead past, writes []api.Change) past {
	t.Helper()
	behind := ahead.with(writes...)
	if s.Seq() == behind.seq() {
		holds(t, what, s, behind)
		return behind
	}
	holds(t, what, s, ahead)
	return ahead
}

// loose: how many bytes of a disk are.
func loose(d *disk.Disk) int {
	n := 0
	for _, name := range d.List() {
		n += d.Loose(name)
	}
	return n
}

// fates: first parts of so many bytes, with none turned, and with bits turned in some.
func fates(n int) []api.Fate {
	var l []api.Fate
	for keep := range n + 1 {
		if n > 80 && keep > 20 && keep < n-20 && keep%41 != 0 {
			continue
		}
		l = append(l, api.Fate{Keep: keep}, api.Fate{Keep: keep, At: keep - 1, Turn: 1}, api.Fate{Keep: keep, At: keep / 2, Turn: 0x80})
	}
	for at := 0; at < n; at += 1 + n/60 {
		l = append(l, api.Fate{Keep: n, At: at, Turn: 1 << (at % 8)})
	}
	return append(l, api.Fate{Keep: math.MaxInt}, api.Fate{Keep: math.MinInt, At: -1, Turn: 0xff})
}

// all: the same fate for each file.
func all(f api.Fate) []api.Fate { return slices.Repeat([]api.Fate{f}, 5) }

// TestCrash: P17.5, the power goes ahead of each step of all that is done, whatever becomes of what is loose.
func TestCrash(t *testing.T) {
	for _, x := range deeds() {
		which := map[uint64]int{}
		steps, over := 0, false
		for ; !over; steps++ {
			d, s, _ := begun(t, x.o)
			d.Fuse(steps)
			x.do(d, s)
			for _, f := range fates(loose(d)) {
				d, s, p := begun(t, x.o)
				d.Fuse(steps)
				e := x.do(d, s)
				over = !d.Down()
				d.Crash(all(f))
				what := fmt.Sprintf("%s, behind %d steps, %v", x.what, steps, f)
				z := opened(t, d, x.o)
				got := either(t, what, z, p, x.writes)
				if e == api.OK {
					want(t, what+": it was told", got.seq(), p.with(x.writes...).seq())
				}
				sound(t, what, d, z)
				which[got.seq()]++
				if t.Failed() {
					return
				}
			}
		}
		want(t, x.what+": all ends came", len(which), 1+min(1, len(x.writes)))
		want(t, x.what+": steps", steps > 2, true)
	}
}

// TestFaultThenCrash: P17.5, a step fails, the store is opened again, and there the power goes ahead of each step, whatever becomes of what is loose.
func TestFaultThenCrash(t *testing.T) {
	for _, x := range deeds() {
		over := false
		for fault := 0; !over; fault++ {
			for fuse, opens := 0, false; !opens; fuse++ {
				for _, f := range []api.Fate{{}, {Keep: 5}, {Keep: 30, At: 20, Turn: 2}, {Keep: 1 << 20}} {
					d, s, p := begun(t, x.o)
					d.Fault(fault)
					e := x.do(d, s)
					what := fmt.Sprintf("%s, a fault behind %d steps, the power goes behind %d, %v", x.what, fault, fuse, f)
					if s.ReadOnly() {
						if e == api.OK {
							p = p.with(x.writes...)
						}
						holds(t, what, s, p)
					} else if e == api.OK {
						over = true
						p = p.with(x.writes...)
					}
					d.Fault(-1)
					d.Fuse(fuse)
					_, e = store.Open(d, x.o)
					opens = !d.Down()
					want(t, what+": Open", e == api.OK, opens)
					d.Crash(all(f))
					z := opened(t, d, x.o)
					either(t, what, z, p, x.writes)
					sound(t, what, d, z)
					if t.Failed() {
						return
					}
				}
			}
		}
	}
}

// TestLooseManifest: P17.5, a manifest's record that wasn't synced is read by the next Open; a crash there takes it, and what stood ahead of it must be there yet.
func TestLooseManifest(t *testing.T) {
	for fuse := range 30 {
		d, s, p := begun(t, store.Options{})
		steps := 0
		for d.Fault(steps); s.Flush() == api.OK; d.Fault(steps) {
			t.Fatal("no fault")
		}
		for steps = 1; ; steps++ {
			d, s, p = begun(t, store.Options{})
			d.Fault(steps)
			want(t, "Flush", s.Flush(), api.ErrIO)
			name, _, _ := manifest.Load(d)
			if d.Loose(name) > 0 {
				break
			}
		}
		d.Fuse(fuse)
		store.Open(d, store.Options{})
		d.Crash(nil)
		z := opened(t, d, store.Options{})
		holds(t, fmt.Sprint("behind ", fuse), z, p)
		sound(t, fmt.Sprint("behind ", fuse), d, z)
	}
}

// TestCrashesInOpen: P17.1, P17.5, however often an Open is cut off, what it leaves behind doesn't grow.
func TestCrashesInOpen(t *testing.T) {
	d, s, p := begun(t, store.Options{Block: 60})
	own := len(s.Files())
	for i := range 600 {
		d.Fuse(i % 14)
		_, e := store.Open(d, store.Options{})
		if e != api.OK {
			want(t, "Open", e, api.ErrPower)
		}
		want(t, "files", len(d.List()) <= own+10, true)
		d.Crash(all(api.Fate{Keep: i % 50}))
	}
	z := opened(t, d, store.Options{})
	holds(t, "at last", z, p)
	sound(t, "at last", d, z)
}
