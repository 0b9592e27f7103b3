package wal_test

import (
	"fmt"
	"math"
	"slices"
	"testing"

	"bourse/api"
	"bourse/batch"
	"bourse/disk"
	"bourse/wal"
)

// TestRead: P16.2, by hand.
func TestRead(t *testing.T) {
	a, b, c := of(1, put("a", "1")), of(2, del("b"), del("c")), of(4)
	read(t, "nothing", "")
	read(t, "one", log(t, a), a)
	read(t, "three", log(t, a, b, c), a, b, c)
	read(t, "numbers that lack", log(t, of(0), a, of(70), of(batch.Top, del("z"))), of(0), a, of(70), of(batch.Top, del("z")))
	read(t, "one without changes twice", log(t, c, c), c, c)
	read(t, "the bytes of one", full("\x05\x00\x00\x00\x00\x00\x00\x00\x01\x01\x01a\x011"), of(5, put("a", "1")))
	read(t, "no log", "this is no log")
	read(t, "noughts", string(make([]byte, 2*api.Block)))
}

// TestReadOrder: P16.2, up to the first record whose number is below the number behind the batch ahead.
func TestReadOrder(t *testing.T) {
	a, b, c := of(1, put("a", "1")), of(2, del("b"), del("c")), of(4)
	read(t, "the same one twice", log(t, a, a, b), a)
	read(t, "turned", log(t, b, a, c), b)
	read(t, "within it", log(t, b, of(3), c), b)
	read(t, "one below", log(t, a, b, of(3, del("d")), of(9)), a, b)
	read(t, "0 at last", log(t, a, b, c, of(0)), a, b, c)
	read(t, "behind one without changes", log(t, c, of(3), c), c)
	read(t, "behind the greatest number", log(t, of(batch.Top, del("a")), of(batch.Top)), of(batch.Top, del("a")))
	for first := range uint64(5) {
		for n := range 4 {
			for second := range uint64(9) {
				b := of(first, slices.Repeat([]api.Change{del("a")}, n)...)
				wanted := []batch.Batch{b, of(second, put("k", "v"))}
				if second < first+uint64(n) {
					wanted = wanted[:1]
				}
				what := fmt.Sprintf("%d behind %d changes from %d", second, n, first)
				read(t, what, log(t, b, of(second, put("k", "v"))), wanted...)
			}
		}
	}
}

// TestReadOthers: P16.2, up to the first record that isn't a batch, whatever stands behind it.
func TestReadOthers(t *testing.T) {
	a, b := of(1, put("a", "1")), of(2, del("b"))
	ra, rb := record(t, a), record(t, b)
	const two = "\x02\x00\x00\x00\x00\x00\x00\x00"
	for _, x := range []struct{ what, other string }{
		{"no bytes", ""},
		{"a text", "hello"},
		{"seven bytes", two[:7]},
		{"no changes told", two},
		{"a change lacks", two + "\x01"},
		{"the kind 0", two + "\x01\x00\x01a"},
		{"the kind 3", two + "\x01\x03\x01a"},
		{"no key", two + "\x01\x02\x00"},
		{"2001 changes", two + "\xd1\x0f"},
		{"it goes on", rb + "\x00"},
		{"it is cut", rb[:len(rb)-1]},
		{"two in one", rb + rb},
		{"a number too great", "\x00\x00\x00\x00\x00\x00\x00\x01\x00"},
		{"a last number too great", "\xff\xff\xff\xff\xff\xff\xff\x00\x02\x02\x01a\x02\x01a"},
	} {
		read(t, x.what+", alone", laid(x.other))
		read(t, x.what+", ahead", laid(x.other, ra, rb))
		read(t, x.what+", behind", laid(ra, x.other), a)
		read(t, x.what+", between", laid(ra, x.other, rb), a)
		read(t, x.what+", at last", laid(ra, rb, x.other), a, b)
	}
}

// TestReadCut: P16.2, a log that is cut anywhere tells the batches that are whole; so does one whose byte is turned.
func TestReadCut(t *testing.T) {
	var all []batch.Batch
	var ends []int
	next := uint64(1)
	c := dice(4)
	for range 12 {
		b := of(next, append(c.changes(), put("k", x(c.below(300))))...)
		all, next = append(all, b), b.Next()
		ends = append(ends, len(log(t, all...)))
	}
	s := log(t, all...)
	want(t, "blocks", len(s) > 3*api.Block, true)
	// Up to a place there are so many whole ones.
	whole := func(at int) []batch.Batch {
		n := 0
		for n < len(ends) && ends[n] <= at {
			n++
		}
		return all[:n]
	}
	for at := range len(s) + 1 {
		read(t, fmt.Sprint("cut at ", at), s[:at], whole(at)...)
	}
	for at := range len(s) {
		b := []byte(s)
		b[at] ^= 1 << (at % 8)
		read(t, fmt.Sprint("turned at ", at), string(b), whole(at)...)
	}
}

// TestReadLeft: P16.2, it may be left anywhere, and gone through again.
func TestReadLeft(t *testing.T) {
	all := []batch.Batch{of(1, put("a", "1")), of(2, del("b")), of(3)}
	r := wal.Read(log(t, all...))
	for n := range all {
		var l []batch.Batch
		for b := range r {
			if l = append(l, b); len(l) > n {
				break
			}
		}
		batches(t, "left", l, all[:n+1]...)
	}
	n := 0
	for range r {
		for range r {
			n++
		}
	}
	want(t, "within one another", n, 9)
}

// TestLoad: P16.2, what the log of that number tells, whoever wrote it.
func TestLoad(t *testing.T) {
	d := fresh(t)
	a, b := of(1, put("a", "1")), of(2, del("b"))
	done(t, made(t, d, 1).Add(a), made(t, d, 2).Add(b))
	done(t, d.Create("l-10"), d.Append("l-10", log(t, a, b)+"torn"))
	done(t, d.Create("l-9"), d.Append("l-9", "no log"))
	tells(t, "the first one", d, 1, a)
	tells(t, "the second one", d, 2, b)
	tells(t, "a loose one", d, 10, a, b)
	tells(t, "no log", d, 9)
	before := d.Steps()
	tells(t, "once more", d, 1, a)
	want(t, "steps", d.Steps(), before)
}

// unloaded: an error, and nothing beside it.
func unloaded(t *testing.T, what string, d *disk.Disk, number uint64, wanted api.Errno) {
	t.Helper()
	l, e := wal.Load(d, number)
	want(t, what, e, wanted)
	want(t, what+": how many", len(l), 0)
}

// TestLoadErrors: P16.2, layer 2's errors of Read.
func TestLoadErrors(t *testing.T) {
	unloaded(t, "no disk", nil, 1, api.ErrNil)
	d := fresh(t)
	unloaded(t, "no files", d, 0, api.ErrNone)
	done(t, made(t, d, 1).Add(of(1)), d.Create("m-2"), d.Create("l-02"), d.Create("l2"))
	unloaded(t, "none of that number", d, 2, api.ErrNone)
	unloaded(t, "none of the greatest number", d, math.MaxUint64, api.ErrNone)
	d.Fuse(0)
	want(t, "the power goes", d.Sync("l-1"), api.ErrPower)
	unloaded(t, "no power", d, 1, api.ErrPower)
	unloaded(t, "no power, no file", d, 2, api.ErrPower)
	d.Crash(nil)
	tells(t, "behind a crash", d, 1, of(1))
}

// TestNumbers: P16.2, of all logs, rising as numbers; of what isn't named so none.
func TestNumbers(t *testing.T) {
	list(t, "no disk", wal.Numbers(nil))
	d := fresh(t)
	list(t, "no files", wal.Numbers(d))
	for _, s := range []string{"l", "l-", "l--1", "l-01", "l-00", "l-1.", "l-a", "l-1-2", "l.1", "ll-1", "m-4", "t-5", "current", "1", "-1", "xl-6", "l-18446744073709551616", "l-99999999999999999999999999"} {
		done(t, d.Create(s))
	}
	list(t, "others alone", wal.Numbers(d))
	for _, n := range []uint64{10, 9, 100, 2, math.MaxUint64, 0, 1 << 63} {
		made(t, d, n)
	}
	list(t, "all", wal.Numbers(d), 0, 2, 9, 10, 100, 1<<63, math.MaxUint64)
	done(t, d.Delete("l-9"), d.Rename("l-2", "x"), d.Rename("m-4", "l-4"))
	list(t, "some went, one came", wal.Numbers(d), 0, 4, 10, 100, 1<<63, math.MaxUint64)
	d.Fuse(0)
	want(t, "the power goes", d.Delete("l-0"), api.ErrPower)
	list(t, "no power", wal.Numbers(d), 0, 4, 10, 100, 1<<63, math.MaxUint64)
	l := wal.Numbers(d)
	clear(l)
	list(t, "the other answer", wal.Numbers(d), 0, 4, 10, 100, 1<<63, math.MaxUint64)
}
