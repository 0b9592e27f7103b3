package wal_test

import (
	"fmt"
	"math"
	"slices"
	"testing"

	"bourse/api"
	"bourse/batch"
	"bourse/disk"
	"bourse/wal"
)

// begun: a log with two batches.
func begun(t *testing.T) (*disk.Disk, *wal.Log, []batch.Batch) {
	t.Helper()
	d := fresh(t)
	l := made(t, d, 1)
	all := []batch.Batch{of(1, put("a", "1")), of(2, del("b"), put("c", x(40)))}
	done(t, l.Add(all[0]), l.Add(all[1]))
	return d, l, all
}

// fates: all first parts of so many bytes, each with none turned, and with a bit of each of its bytes.
func fates(n int, try func(api.Fate)) {
	for keep := range n + 1 {
		try(api.Fate{Keep: keep})
		for at := range keep {
			for bit := range 8 {
				try(api.Fate{Keep: keep, At: at, Turn: 1 << bit})
			}
		}
	}
}

// TestCrashInAdd: P16.3, the power goes ahead of each step of an Add, whatever becomes of what is loose.
func TestCrashInAdd(t *testing.T) {
	b := of(4, put("key", "value"), del("e"))
	for n := range 3 {
		d, l, _ := begun(t)
		before := l.Len()
		done(t, l.Add(b))
		all := l.Len() - before
		count := map[int]int{}
		fates(all, func(f api.Fate) {
			d, l, _ = begun(t)
			_, _, told := begun(t)
			d.Fuse(n)
			e := l.Add(b)
			d.Crash([]api.Fate{f})
			what := fmt.Sprintf("behind %d steps, %v", n, f)
			want(t, what, e == api.OK, n == 2)
			if n == 2 || n == 1 && f.Turn == 0 && f.Keep == all {
				told = append(told, b)
			}
			tells(t, what, d, 1, told...)
			count[len(told)]++
		})
		if n == 1 {
			want(t, "both were told", count[2] > 0 && count[3] > 0, true)
		}
	}
}

// TestCrashInLongAdd: P16.3, as that, of a record that goes over blocks.
func TestCrashInLongAdd(t *testing.T) {
	b := of(4, put(x(200), x(700)), del(x(150)), put("k", x(300)))
	_, l, _ := begun(t)
	before := l.Len()
	done(t, l.Add(b))
	all := l.Len() - before
	want(t, "blocks", all > 2*api.Block, true)
	for keep := range all + 1 {
		for at := -1; at < keep; at += 97 {
			d, l, told := begun(t)
			d.Fuse(1)
			want(t, "Add", l.Add(b), api.ErrPower)
			d.Crash([]api.Fate{{Keep: keep, At: at, Turn: 0x10}})
			if keep == all && at < 0 {
				told = append(told, b)
			}
			tells(t, fmt.Sprint(keep, " kept, turned at ", at), d, 1, told...)
		}
	}
}

// TestCrashInCreate: P16.3, a log is there, and empty, or it isn't.
func TestCrashInCreate(t *testing.T) {
	for n := range 2 {
		d := fresh(t)
		d.Fuse(n)
		_, e := wal.Create(d, 1)
		want(t, "Create", e == api.OK, n == 1)
		d.Crash(nil)
		if n == 1 {
			tells(t, "it is there", d, 1)
			continue
		}
		unloaded(t, "it isn't there", d, 1, api.ErrNone)
		done(t, made(t, d, 1).Add(of(1)))
		tells(t, "made anew", d, 1, of(1))
	}
}

// TestBehindACrash: P16.3, all batches whose Add was OK last; a log whose Adds had no error goes on behind a crash.
func TestBehindACrash(t *testing.T) {
	d, l, all := begun(t)
	d.Crash(nil)
	tells(t, "two", d, 1, all...)
	for n := range 5 {
		b := of(uint64(10+n), put("k", x(n*200)))
		done(t, l.Add(b))
		all = append(all, b)
		d.Crash(slices.Repeat([]api.Fate{{Keep: math.MaxInt, Turn: 1}}, 5))
		tells(t, "one more", d, 1, all...)
	}
}

// TestModel: P16.1 to P16.3, Adds as it comes, with faults, a power that goes, a disk that is full, and crashes.
func TestModel(t *testing.T) {
	c := dice(5)
	seen := map[api.Errno]int{}
	kept := map[int]int{}
	for range 2000 {
		d := fresh(t)
		l := made(t, d, 1)
		var told []batch.Batch
		var next uint64
		if c.below(2) == 0 {
			d.Fuse(c.below(30))
		} else {
			d.Fault(c.below(30))
		}
		if c.below(5) == 0 {
			d.Room(c.below(3000))
		}
		var under batch.Batch
		e := api.OK
		for e == api.OK {
			under = of(next+uint64(c.below(3)), c.changes()...)
			if e = l.Add(under); e == api.OK {
				told, next = append(told, under), under.Next()
			}
			want(t, "Len", l.Len(), len(log(t, told...)))
			if next > 0 && c.below(4) == 0 && e == api.OK {
				want(t, "a number below", l.Add(of(uint64(c.below(int(next))))), api.ErrOrder)
			}
		}
		seen[e]++
		want(t, "Broken", l.Broken(), true)
		want(t, "behind an error", l.Add(of(next)), api.ErrBroken)
		d.Crash([]api.Fate{{Keep: c.below(3) * c.below(200), At: c.below(80), Turn: byte(c.below(2) * c.below(256))}})
		got, err := wal.Load(d, 1)
		want(t, "Load", err, api.OK)
		if len(got) > len(told) {
			told = append(told, under)
			kept[1]++
		} else {
			kept[0]++
		}
		batches(t, "behind a crash", got, told...)
		if t.Failed() {
			return
		}
	}
	for _, e := range []api.Errno{api.ErrIO, api.ErrPower, api.ErrFull} {
		want(t, fmt.Sprintf("%v came often", e), seen[e] > 50, true)
	}
	want(t, "both were kept", kept[0] > 500 && kept[1] > 100, true)
}
