package wal_test

import (
	"fmt"
	"math"
	"slices"
	"testing"
	"unsafe"

	"bourse/api"
	"bourse/batch"
	"bourse/disk"
	"bourse/wal"
)

// name: that of a log's file.
func name(number uint64) string { return fmt.Sprintf("l-%d", number) }

// TestCreate: P16.1, an empty log in a new file.
func TestCreate(t *testing.T) {
	d := fresh(t)
	for i, number := range []uint64{3, 0, 1, 10, 1 << 63, math.MaxUint64} {
		l := made(t, d, number)
		want(t, "Name", l.Name(), name(number))
		want(t, "Len", l.Len(), 0)
		want(t, "Broken", l.Broken(), false)
		want(t, "steps", d.Steps(), i+1)
		holds(t, d, name(number), "")
		tells(t, "an empty log", d, number)
	}
	want(t, "the greatest name", made(t, fresh(t), math.MaxUint64).Name(), "l-18446744073709551615")
	list(t, "files", d.List(), "l-0", "l-1", "l-10", "l-18446744073709551615", "l-3", "l-9223372036854775808")
}

// TestCreateErrors: P16.1, the disk's error, and no log beside it.
func TestCreateErrors(t *testing.T) {
	fails := func(what string, d *disk.Disk, wanted api.Errno) {
		t.Helper()
		files, steps := d.List(), d.Steps()
		l, e := wal.Create(d, 3)
		want(t, what, e, wanted)
		want(t, what+": the log", l == nil, true)
		list(t, what+": files", d.List(), files...)
		want(t, what+": steps", d.Steps(), steps)
	}
	fails("no disk", nil, api.ErrNil)
	d := fresh(t)
	d.Fault(0)
	fails("a fault", d, api.ErrIO)
	l := made(t, d, 3)
	done(t, l.Add(of(1)))
	fails("it is there", d, api.ErrThere)
	tells(t, "it is there", d, 3, of(1))
	d = fresh(t)
	d.Fuse(0)
	fails("the power goes", d, api.ErrPower)
	fails("the power is gone", d, api.ErrPower)
	d = fresh(t)
	for i := range api.MaxFiles {
		done(t, d.Create(fmt.Sprint("t-", i)))
	}
	fails("200 files", d, api.ErrMany)
}

// TestAdd: P16.1, by hand: the record behind those that are there, synced.
func TestAdd(t *testing.T) {
	d := fresh(t)
	l := made(t, d, 3)
	file := ""
	for _, x := range []struct {
		b batch.Batch
		s string
	}{
		{of(0), "\x00\x00\x00\x00\x00\x00\x00\x00\x00"},
		{of(0, put("a", "1")), "\x00\x00\x00\x00\x00\x00\x00\x00\x01\x01\x01a\x011"},
		{of(1), "\x01\x00\x00\x00\x00\x00\x00\x00\x00"},
		{of(1), "\x01\x00\x00\x00\x00\x00\x00\x00\x00"},
		{of(1, del("a"), put("b", "")), "\x01\x00\x00\x00\x00\x00\x00\x00\x02\x02\x01a\x01\x01b\x00"},
		{of(3, del("c")), "\x03\x00\x00\x00\x00\x00\x00\x00\x01\x02\x01c"},
		{of(300, put("d", "\x00\xff")), "\x2c\x01\x00\x00\x00\x00\x00\x00\x01\x01\x01d\x02\x00\xff"},
		{of(batch.Top - 1), "\xfe\xff\xff\xff\xff\xff\xff\x00\x00"},
		{of(batch.Top, del("e")), "\xff\xff\xff\xff\xff\xff\xff\x00\x01\x02\x01e"},
	} {
		before := d.Steps()
		want(t, "Add", l.Add(x.b), api.OK)
		want(t, "steps", d.Steps()-before, 2)
		file += full(x.s)
		holds(t, d, "l-3", file)
		want(t, "Len", l.Len(), len(file))
		want(t, "Broken", l.Broken(), false)
		want(t, "Name", l.Name(), "l-3")
	}
	want(t, "behind the greatest number", l.Add(of(batch.Top)), api.ErrOrder)
	want(t, "the number behind it", l.Add(of(batch.Top+1)), api.ErrRange)
	holds(t, d, "l-3", file)
}

// TestAddOverBlocks: P16.1, records go on over blocks, and stand behind noughts, wherever they begin.
func TestAddOverBlocks(t *testing.T) {
	d := fresh(t)
	l := made(t, d, 1)
	var all []batch.Batch
	next := uint64(7)
	c := dice(1)
	for range 400 {
		b := of(next+uint64(c.below(3)), c.changes()...)
		want(t, "Add", l.Add(b), api.OK)
		all, next = append(all, b), b.Next()
	}
	for _, b := range []batch.Batch{of(next, put(x(200), x(4096))), of(next+1, slices.Repeat([]api.Change{put(x(200), x(100))}, 2000)...)} {
		want(t, "Add", l.Add(b), api.OK)
		all = append(all, b)
	}
	s := log(t, all...)
	want(t, "blocks", len(s) > 1000*api.Block, true)
	holds(t, d, "l-1", s)
	want(t, "Len", l.Len(), len(s))
	tells(t, "all", d, 1, all...)
}

// TestAddRefused: P16.1, errors of the number, then layer 6's, in order; what is refused changes nothing.
func TestAddRefused(t *testing.T) {
	d := fresh(t)
	l := made(t, d, 1)
	ahead := of(3, put("a", ""), del("b"))
	done(t, l.Add(ahead))
	file := log(t, ahead)
	for _, c := range refusals() {
		before := d.Steps()
		d.Fault(0) // none of the disk's errors comes ahead
		want(t, c.what, l.Add(c.b), c.want)
		d.Fault(-1)
		want(t, c.what+": steps", d.Steps(), before)
		want(t, c.what+": Len", l.Len(), len(file))
		want(t, c.what+": Broken", l.Broken(), false)
		holds(t, d, "l-1", file)
	}
	want(t, "one more", l.Add(of(5)), api.OK)
	tells(t, "one more", d, 1, ahead, of(5))
	d.Fuse(0)
	want(t, "the power goes", d.Sync("l-1"), api.ErrPower)
	for _, c := range refusals() {
		want(t, c.what+", no power", l.Add(c.b), c.want)
	}
	want(t, "no power", l.Broken(), false)
	want(t, "a good one, no power", l.Add(of(5)), api.ErrPower)
	want(t, "a good one, no power: Broken", l.Broken(), true)
}

// TestOrder: P16.1, all pairs of numbers, and of how many changes the first one has.
func TestOrder(t *testing.T) {
	for first := range uint64(6) {
		for n := range 4 {
			for second := range uint64(12) {
				d := fresh(t)
				l := made(t, d, 1)
				b := of(first, slices.Repeat([]api.Change{del("a")}, n)...)
				done(t, l.Add(b))
				wanted, told := api.OK, []batch.Batch{b, of(second)}
				if second < first+uint64(n) {
					wanted, told = api.ErrOrder, told[:1]
				}
				want(t, fmt.Sprintf("%d behind %d changes from %d", second, n, first), l.Add(of(second)), wanted)
				tells(t, "behind it", d, 1, told...)
			}
		}
	}
}

// broken: an Add had an error of the disk: each one is refused, whatever it is, and does nothing.
func broken(t *testing.T, what string, d *disk.Disk, l *wal.Log, length int) {
	t.Helper()
	before := d.Steps()
	want(t, what+": Broken", l.Broken(), true)
	want(t, what+": a good one", l.Add(of(99)), api.ErrBroken)
	for _, c := range refusals() {
		want(t, what+": "+c.what, l.Add(c.b), api.ErrBroken)
	}
	want(t, what+": steps", d.Steps(), before)
	want(t, what+": Len", l.Len(), length)
	want(t, what+": Name", l.Name(), "l-1")
}

// TestAddBroken: P16.1, the disk's error of each of its two steps: it may be there, or not.
func TestAddBroken(t *testing.T) {
	for n := range 2 {
		for _, wanted := range []api.Errno{api.ErrIO, api.ErrPower} {
			what := fmt.Sprintf("%v at the step %d", wanted, n)
			d := fresh(t)
			l := made(t, d, 1)
			done(t, l.Add(of(1, put("a", "1"))))
			ahead, all := log(t, of(1, put("a", "1"))), log(t, of(1, put("a", "1")), of(2, del("b")))
			if wanted == api.ErrIO {
				d.Fault(n)
			} else {
				d.Fuse(n)
			}
			before := d.Steps()
			want(t, what, l.Add(of(2, del("b"))), wanted)
			want(t, what+": steps", d.Steps()-before, n)
			want(t, what+": loose", d.Loose("l-1"), n*(len(all)-len(ahead)))
			broken(t, what, d, l, len(ahead))
			if wanted == api.ErrIO {
				tells(t, what, d, 1, []batch.Batch{of(1, put("a", "1")), of(2, del("b"))}[:n+1]...)
			}
			d.Crash([]api.Fate{{Keep: 3}})
			broken(t, what+", behind a crash", d, l, len(ahead))
			tells(t, what+", behind a crash", d, 1, of(1, put("a", "1")))
		}
	}
}

// TestAddOtherErrors: P16.1, a disk that is full, and one whose file is gone.
func TestAddOtherErrors(t *testing.T) {
	d := fresh(t)
	l := made(t, d, 1)
	file := log(t, of(1))
	d.Room(len(file))
	want(t, "just room for it", l.Add(of(1)), api.OK)
	d.Room(2*len(file) - 1)
	want(t, "one byte lacks", l.Add(of(1)), api.ErrFull)
	d.Room(1 << 20)
	broken(t, "full", d, l, len(file))
	holds(t, d, "l-1", file)

	d = fresh(t)
	l = made(t, d, 1)
	done(t, d.Delete("l-1"))
	want(t, "the file is gone", l.Add(of(1)), api.ErrNone)
	broken(t, "gone", d, l, 0)
	list(t, "gone: files", d.List())
}

// TestTwo: P16.1, of two logs each goes on by itself.
func TestTwo(t *testing.T) {
	d := fresh(t)
	a, b := made(t, d, 1), made(t, d, 2)
	done(t, a.Add(of(5, del("a"))), b.Add(of(1, del("b"))), a.Add(of(6)), b.Add(of(2)))
	d.Fault(0)
	want(t, "the second one", b.Add(of(3)), api.ErrIO)
	done(t, a.Add(of(7)))
	want(t, "Broken", a.Broken(), false)
	tells(t, "the first one", d, 1, of(5, del("a")), of(6), of(7))
	tells(t, "the second one", d, 2, of(1, del("b")), of(2))
}

// TestNil: P16.1, of nil ErrNil, zero, false.
func TestNil(t *testing.T) {
	var l *wal.Log
	want(t, "Add", l.Add(of(1)), api.ErrNil)
	want(t, "Add of what is refused", l.Add(of(1, put("", ""))), api.ErrNil)
	want(t, "Name", l.Name(), "")
	want(t, "Len", l.Len(), 0)
	want(t, "Broken", l.Broken(), false)
}

// TestMemory: what is handed in stays, and isn't kept; answers share none.
func TestMemory(t *testing.T) {
	d := fresh(t)
	l := made(t, d, 1)
	changes := []api.Change{put("a", "1"), del("b"), put("spare", "room")}
	b := of(1, changes[:2]...)
	done(t, l.Add(b))
	list(t, "what was handed in", changes, put("a", "1"), del("b"), put("spare", "room"))
	want(t, "its number", b.Seq, 1)
	clear(changes)
	done(t, l.Add(of(3)))
	wanted := []batch.Batch{of(1, put("a", "1"), del("b")), of(3)}
	tells(t, "behind a change", d, 1, wanted...)
	first, _ := wal.Load(d, 1)
	second, _ := wal.Load(d, 1)
	clear(first[0].Changes)
	clear(first)
	batches(t, "the other answer", second, wanted...)
	r := wal.Read(log(t, wanted...))
	for b := range r {
		clear(b.Changes)
	}
	batches(t, "gone through again", slices.Collect(r), wanted...)
	want(t, "a name that is shared", unsafe.StringData(l.Name()) == unsafe.StringData(l.Name()), false)
}
