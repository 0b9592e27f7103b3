package disk_test

import (
	"math"
	"slices"
	"strings"
	"testing"

	"bourse/api"
	"bourse/disk"
)

// want: a test fails, if something is another thing than was wanted.
func want[T comparable](t *testing.T, what string, got, wanted T) {
	t.Helper()
	if got != wanted {
		t.Errorf("%s: %v, wanted %v", what, got, wanted)
	}
}

// fresh: a disk of that room.
func fresh(t *testing.T, room int) *disk.Disk {
	t.Helper()
	d, e := disk.New(room)
	if d == nil || e != api.OK {
		t.Fatalf("New(%d): %v, %v", room, d, e)
	}
	return d
}

// done: a test ends, if a step has an error.
func done(t *testing.T, errors ...api.Errno) {
	t.Helper()
	for i, e := range errors {
		if e != api.OK {
			t.Fatalf("step %d: %v", i, e)
		}
	}
}

// holds: a file's bytes, and how many are loose.
func holds(t *testing.T, d *disk.Disk, name, data string, loose int) {
	t.Helper()
	got, e := d.Read(name)
	want(t, "error of reading "+name, e, api.OK)
	if got != data {
		t.Errorf("bytes of %s: %q, wanted %q", name, got, data)
	}
	want(t, "loose bytes of "+name, d.Loose(name), loose)
}

func listed(t *testing.T, d *disk.Disk, names ...string) {
	t.Helper()
	if got := d.List(); !slices.Equal(got, names) {
		t.Errorf("list: %q, wanted %q", got, names)
	}
}

// TestNew: P2.1, an empty disk, and rooms that aren't.
func TestNew(t *testing.T) {
	for _, room := range []int{0, 1, 100, api.MaxDisk} {
		d := fresh(t, room)
		listed(t, d)
		want(t, "used", d.Used(), 0)
		want(t, "steps", d.Steps(), 0)
		want(t, "down", d.Down(), false)
		want(t, "loose", d.Loose("a"), 0)
		done(t, d.Create("a"))
		if room > 0 {
			done(t, d.Append("a", "x"))
		} else {
			want(t, "no room", d.Append("a", "x"), api.ErrFull)
		}
	}
	for _, room := range []int{-1, math.MinInt, api.MaxDisk + 1, math.MaxInt} {
		d, e := disk.New(room)
		want(t, "error", e, api.ErrArg)
		want(t, "disk", d, nil)
	}
}

// TestRead: P2.1, all bytes, lasting and loose; its errors in their order.
func TestRead(t *testing.T) {
	d := fresh(t, 100)
	done(t, d.Create("a"))
	holds(t, d, "a", "", 0)
	done(t, d.Append("a", "one"), d.Sync("a"), d.Append("a", "\x00\xff"))
	holds(t, d, "a", "one\x00\xff", 2)
	for _, name := range []string{"b", "", "A", strings.Repeat("a", 40)} {
		s, e := d.Read(name)
		want(t, "bytes of none", s, "")
		want(t, "error of none", e, api.ErrNone)
	}
	before := d.Steps()
	d.Fault(0)
	holds(t, d, "a", "one\x00\xff", 2)
	d.Fuse(0)
	holds(t, d, "a", "one\x00\xff", 2)
	want(t, "reading is no step", d.Steps(), before)
	want(t, "reading takes no power", d.Down(), false)
	want(t, "the power goes", d.Sync("a"), api.ErrPower)
	for _, name := range []string{"a", "b", ""} {
		s, e := d.Read(name)
		want(t, "bytes without power", s, "")
		want(t, "error without power", e, api.ErrPower)
	}
}

// TestReadIsNew: what was read stays, whatever becomes of the file.
func TestReadIsNew(t *testing.T) {
	d := fresh(t, 100)
	done(t, d.Create("a"), d.Append("a", "abc"))
	s, _ := d.Read("a")
	d.Crash([]api.Fate{{Keep: 3, At: 1, Turn: 0xff}})
	done(t, d.Append("a", "d"))
	want(t, "what was read", s, "abc")
}

// TestListIsNew: a list that is changed leaves the disk as it is.
func TestListIsNew(t *testing.T) {
	d := fresh(t, 100)
	done(t, d.Create("b"), d.Create("a"))
	l := d.List()
	l[0], l[1] = "x", "y"
	listed(t, d, "a", "b")
}

// TestList: P2.1, rising byte by byte, with and without power.
func TestList(t *testing.T) {
	d := fresh(t, 100)
	for _, name := range []string{"b", "a.", "10", "a-", "9", "aa", "a", "-", "."} {
		done(t, d.Create(name))
	}
	listed(t, d, "-", ".", "10", "9", "a", "a-", "a.", "aa", "b")
	d.Fuse(0)
	want(t, "the power goes", d.Delete("9"), api.ErrPower)
	listed(t, d, "-", ".", "10", "9", "a", "a-", "a.", "aa", "b")
	d.Crash(nil)
	done(t, d.Delete("9"))
	listed(t, d, "-", ".", "10", "a", "a-", "a.", "aa", "b")
}

// TestLooseAndUsed: P2.1, of what is there, with and without power.
func TestLooseAndUsed(t *testing.T) {
	d := fresh(t, 100)
	done(t, d.Create("a"), d.Create("b"), d.Append("a", "12345"), d.Append("b", "123"))
	want(t, "used", d.Used(), 8)
	want(t, "loose a", d.Loose("a"), 5)
	want(t, "loose b", d.Loose("b"), 3)
	done(t, d.Sync("a"), d.Append("a", "67"))
	want(t, "used", d.Used(), 10)
	want(t, "loose a", d.Loose("a"), 2)
	want(t, "loose of none", d.Loose("c"), 0)
	want(t, "loose of no name", d.Loose(""), 0)
	d.Fuse(0)
	want(t, "the power goes", d.Sync("b"), api.ErrPower)
	want(t, "used without power", d.Used(), 10)
	want(t, "loose without power", d.Loose("a"), 2)
	d.Crash([]api.Fate{{Keep: 1}})
	want(t, "used behind a crash", d.Used(), 6)
	done(t, d.Delete("a"))
	want(t, "used without a", d.Used(), 0)
}

// TestRoom: P2.1, from now on; what is there stays.
func TestRoom(t *testing.T) {
	d := fresh(t, 4)
	done(t, d.Create("a"), d.Append("a", "1234"))
	want(t, "full", d.Append("a", "5"), api.ErrFull)
	d.Room(5)
	done(t, d.Append("a", "5"))
	want(t, "full again", d.Append("a", "6"), api.ErrFull)
	d.Room(2)
	holds(t, d, "a", "12345", 5)
	want(t, "less than is used", d.Append("a", "6"), api.ErrFull)
	want(t, "nothing, where more is used than there is room", d.Append("a", ""), api.ErrFull)
	done(t, d.Sync("a"), d.Rename("a", "b"), d.Create("c"), d.Delete("b"), d.Append("c", "12"))
	want(t, "full of c", d.Append("c", "3"), api.ErrFull)
}

// TestRoomEnds: P2.1, 0 below 0, 2^24 above it.
func TestRoomEnds(t *testing.T) {
	for _, n := range []int{0, -1, math.MinInt} {
		d := fresh(t, 4)
		done(t, d.Create("a"))
		d.Room(n)
		want(t, "no room", d.Append("a", "1"), api.ErrFull)
		done(t, d.Append("a", ""))
	}
	all := strings.Repeat("x", api.MaxDisk)
	for _, n := range []int{api.MaxDisk, api.MaxDisk + 1, math.MaxInt} {
		d := fresh(t, 4)
		done(t, d.Create("a"), d.Create("b"))
		d.Room(n)
		want(t, "more than all", d.Append("a", all+"x"), api.ErrFull)
		done(t, d.Append("a", all[1:]))
		want(t, "two more", d.Append("b", "xx"), api.ErrFull)
		done(t, d.Append("b", "x"))
		want(t, "one more than all", d.Append("b", "x"), api.ErrFull)
		want(t, "used", d.Used(), api.MaxDisk)
	}
}

// TestRoomLasts: a crash leaves the room as it is.
func TestRoomLasts(t *testing.T) {
	d := fresh(t, 4)
	d.Room(2)
	d.Crash(nil)
	done(t, d.Create("a"), d.Append("a", "12"))
	want(t, "full", d.Append("a", "3"), api.ErrFull)
}

// TestNil: what a nil disk answers.
func TestNil(t *testing.T) {
	var d *disk.Disk
	d.Fuse(0)
	d.Fault(0)
	d.Room(5)
	d.Crash([]api.Fate{{Keep: 1}})
	want(t, "create", d.Create("a"), api.ErrNil)
	want(t, "create of no name", d.Create(""), api.ErrNil)
	want(t, "append", d.Append("a", "x"), api.ErrNil)
	want(t, "sync", d.Sync("a"), api.ErrNil)
	want(t, "rename", d.Rename("a", "b"), api.ErrNil)
	want(t, "delete", d.Delete("a"), api.ErrNil)
	s, e := d.Read("a")
	want(t, "read", s, "")
	want(t, "read's error", e, api.ErrNil)
	want(t, "list", len(d.List()), 0)
	want(t, "loose", d.Loose("a"), 0)
	want(t, "used", d.Used(), 0)
	want(t, "steps", d.Steps(), 0)
	want(t, "down", d.Down(), false)
}
