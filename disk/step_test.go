package disk_test

import (
	"fmt"
	"math"
	"strings"
	"testing"

	"bourse/api"
	"bourse/disk"
)

// action: a step by its name, so that all can be asked alike.
type action struct {
	what string
	do   func(*disk.Disk) api.Errno
	own  api.Errno // on the disk that twoFiles makes
}

// actions: what is done, and each error that it has of its own.
func actions() []action {
	long := strings.Repeat("a", api.MaxName+1)
	return []action{
		{"create", func(d *disk.Disk) api.Errno { return d.Create("c") }, api.OK},
		{"create no name", func(d *disk.Disk) api.Errno { return d.Create("C") }, api.ErrName},
		{"create long", func(d *disk.Disk) api.Errno { return d.Create(long) }, api.ErrName},
		{"create again", func(d *disk.Disk) api.Errno { return d.Create("a") }, api.ErrThere},
		{"append", func(d *disk.Disk) api.Errno { return d.Append("a", "xy") }, api.OK},
		{"append nothing", func(d *disk.Disk) api.Errno { return d.Append("a", "") }, api.OK},
		{"append to none", func(d *disk.Disk) api.Errno { return d.Append("c", "xy") }, api.ErrNone},
		{"append too much", func(d *disk.Disk) api.Errno { return d.Append("a", strings.Repeat("x", 11)) }, api.ErrFull},
		{"sync", func(d *disk.Disk) api.Errno { return d.Sync("a") }, api.OK},
		{"sync what lasts", func(d *disk.Disk) api.Errno { return d.Sync("b") }, api.OK},
		{"sync none", func(d *disk.Disk) api.Errno { return d.Sync("c") }, api.ErrNone},
		{"rename", func(d *disk.Disk) api.Errno { return d.Rename("a", "c") }, api.OK},
		{"rename onto one", func(d *disk.Disk) api.Errno { return d.Rename("a", "b") }, api.OK},
		{"rename onto itself", func(d *disk.Disk) api.Errno { return d.Rename("a", "a") }, api.OK},
		{"rename none", func(d *disk.Disk) api.Errno { return d.Rename("c", "d") }, api.ErrNone},
		{"rename to no name", func(d *disk.Disk) api.Errno { return d.Rename("a", "") }, api.ErrName},
		{"rename none to no name", func(d *disk.Disk) api.Errno { return d.Rename("c", "/") }, api.ErrNone},
		{"delete", func(d *disk.Disk) api.Errno { return d.Delete("a") }, api.OK},
		{"delete none", func(d *disk.Disk) api.Errno { return d.Delete("c") }, api.ErrNone},
	}
}

// twoFiles: a has 2 bytes that last and 3 loose ones, b 5 that last; there is room for 10 more; 7 steps were done.
func twoFiles(t *testing.T) *disk.Disk {
	t.Helper()
	d := fresh(t, 20)
	done(t, d.Create("a"), d.Append("a", "12"), d.Sync("a"), d.Append("a", "345"))
	done(t, d.Create("b"), d.Append("b", "67890"), d.Sync("b"))
	return d
}

// picture: all that can be seen of a disk that has power.
func picture(d *disk.Disk) string {
	var s strings.Builder
	for _, name := range d.List() {
		data, e := d.Read(name)
		fmt.Fprintf(&s, "%s %q %d %d; ", name, data, d.Loose(name), e)
	}
	fmt.Fprintf(&s, "used %d, steps %d", d.Used(), d.Steps())
	return s.String()
}

// TestOwnErrors: P2.2, and with an error nothing is changed, and no step counted.
func TestOwnErrors(t *testing.T) {
	for _, a := range actions() {
		d := twoFiles(t)
		before, steps := picture(d), d.Steps()
		want(t, a.what, a.do(d), a.own)
		if a.own == api.OK {
			want(t, a.what+": steps", d.Steps(), steps+1)
		} else {
			want(t, a.what+": all as it was", picture(d), before)
		}
	}
}

// TestNoPower: P2.2, a power that is gone comes ahead of all else.
func TestNoPower(t *testing.T) {
	for _, a := range actions() {
		d := twoFiles(t)
		before := picture(d)
		d.Fuse(0)
		want(t, "the power goes", d.Sync("b"), api.ErrPower)
		d.Fuse(9)
		d.Fault(0)
		want(t, a.what, a.do(d), api.ErrPower)
		want(t, a.what+": down", d.Down(), true)
		d.Crash([]api.Fate{{Keep: 3}})
		want(t, a.what+": all as it was", picture(d), strings.Replace(before, `"12345" 3`, `"12345" 0`, 1))
	}
}

// TestFuseOrder: P2.2, the fuse comes behind the step's own errors and ahead of the fault.
func TestFuseOrder(t *testing.T) {
	for _, a := range actions() {
		d := twoFiles(t)
		before := picture(d)
		d.Fuse(0)
		d.Fault(0)
		if a.own != api.OK {
			want(t, a.what, a.do(d), a.own)
			want(t, a.what+": power stays", d.Down(), false)
			want(t, a.what+": all as it was", picture(d), before)
			d.Fuse(-1)
			want(t, a.what+": the fault stays", d.Sync("b"), api.ErrIO)
			continue
		}
		want(t, a.what, a.do(d), api.ErrPower)
		want(t, a.what+": power goes", d.Down(), true)
		d.Crash([]api.Fate{{Keep: 3}})
		want(t, a.what+": all as it was", picture(d), strings.Replace(before, `"12345" 3`, `"12345" 0`, 1))
	}
}

// TestFaultOnce: P2.2, the fault comes behind the step's own errors, once.
func TestFaultOnce(t *testing.T) {
	for _, a := range actions() {
		d := twoFiles(t)
		before := picture(d)
		d.Fault(0)
		if a.own != api.OK {
			want(t, a.what, a.do(d), a.own)
			want(t, a.what+": the fault stays", d.Sync("b"), api.ErrIO)
			continue
		}
		want(t, a.what, a.do(d), api.ErrIO)
		want(t, a.what+": power stays", d.Down(), false)
		want(t, a.what+": all as it was", picture(d), before)
		want(t, a.what+": again", a.do(d), api.OK)
		want(t, a.what+": steps", d.Steps(), 8)
	}
}

// TestFuseBurns: P2.2, each step that is done takes one off fuse and fault, each that isn't takes none.
func TestFuseBurns(t *testing.T) {
	for _, a := range actions() {
		left := 1
		if a.own != api.OK {
			left = 2
		}
		d := twoFiles(t)
		d.Fuse(2)
		want(t, a.what, a.do(d), a.own)
		want(t, a.what+": steps that the fuse leaves", stepsTill(d, api.ErrPower), left)
		d = twoFiles(t)
		d.Fault(2)
		want(t, a.what, a.do(d), a.own)
		want(t, a.what+": steps that the fault leaves", stepsTill(d, api.ErrIO), left)
	}
}

// stepsTill: how many steps are done ahead of that error.
func stepsTill(d *disk.Disk, e api.Errno) int {
	for n := range 100 {
		if got := d.Sync("b"); got == e {
			return n
		} else if got != api.OK {
			return -1
		}
	}
	return 100
}

// TestFaultTakesNoFuse: P2.2, a step that had ErrIO leaves the fuse as it was.
func TestFaultTakesNoFuse(t *testing.T) {
	d := twoFiles(t)
	d.Fuse(2)
	d.Fault(1)
	want(t, "first", d.Sync("b"), api.OK)
	want(t, "fault", d.Sync("b"), api.ErrIO)
	want(t, "second", d.Sync("b"), api.OK)
	want(t, "fuse", d.Sync("b"), api.ErrPower)
	want(t, "gone", d.Sync("b"), api.ErrPower)
}

// TestFuseAndFaultTogether: P2.2, where both are 0 at once the fuse is first.
func TestFuseAndFaultTogether(t *testing.T) {
	d := twoFiles(t)
	d.Fuse(1)
	d.Fault(1)
	want(t, "first", d.Sync("b"), api.OK)
	want(t, "fuse", d.Sync("b"), api.ErrPower)
	want(t, "down", d.Down(), true)
}

// TestNoFuseNoFault: P2.3, any below 0 is none.
func TestNoFuseNoFault(t *testing.T) {
	for _, n := range []int{-1, -2, math.MinInt} {
		d := twoFiles(t)
		d.Fuse(0)
		d.Fuse(n)
		d.Fault(0)
		d.Fault(n)
		want(t, "steps", stepsTill(d, api.ErrPower), 100)
		want(t, "down", d.Down(), false)
	}
	d := twoFiles(t)
	d.Fuse(math.MaxInt)
	d.Fault(math.MaxInt)
	want(t, "steps", stepsTill(d, api.ErrPower), 100)
}

// TestSteps: P2.3, those without error, of five calls; no other call is one.
func TestSteps(t *testing.T) {
	d := fresh(t, 10)
	done(t, d.Create("a"), d.Append("a", "x"), d.Sync("a"), d.Rename("a", "b"), d.Delete("b"))
	want(t, "steps", d.Steps(), 5)
	done(t, d.Create("a"))
	d.Fuse(5)
	d.Fault(6)
	d.Room(7)
	d.Read("a")
	d.Read("b")
	d.List()
	d.Loose("a")
	d.Used()
	d.Down()
	want(t, "steps", d.Steps(), 6)
	d.Crash(nil)
	want(t, "steps behind a crash", d.Steps(), 6)
	done(t, d.Sync("a"))
	want(t, "steps behind one more", d.Steps(), 7)
}

// TestNames: P2.2, each byte alone, and the lengths.
func TestNames(t *testing.T) {
	const good = "abcdefghijklmnopqrstuvwxyz0123456789-."
	for b := range 256 {
		name := string([]byte{byte(b)})
		wanted := api.ErrName
		if strings.IndexByte(good, byte(b)) >= 0 {
			wanted = api.OK
		}
		for _, form := range []string{name, "a" + name, name + "a", "a" + name + "a"} {
			d := fresh(t, 10)
			want(t, fmt.Sprintf("create %q", form), d.Create(form), wanted)
			d = fresh(t, 10)
			done(t, d.Create("zz"))
			want(t, fmt.Sprintf("rename to %q", form), d.Rename("zz", form), wanted)
		}
	}
	for length := range 40 {
		wanted := api.OK
		if length == 0 || length > api.MaxName {
			wanted = api.ErrName
		}
		d := fresh(t, 10)
		want(t, fmt.Sprintf("create %d bytes", length), d.Create(strings.Repeat("a", length)), wanted)
		done(t, d.Create("zz"))
		want(t, fmt.Sprintf("rename to %d bytes", length), d.Rename("zz", strings.Repeat("b", length)), wanted)
	}
}

// TestManyFiles: P2.2, 200, and the order of Create's errors.
func TestManyFiles(t *testing.T) {
	d := fresh(t, 10)
	for i := range api.MaxFiles {
		done(t, d.Create(fmt.Sprintf("f-%d", i)))
	}
	want(t, "one more", d.Create("g"), api.ErrMany)
	want(t, "no name", d.Create("G"), api.ErrName)
	want(t, "there", d.Create("f-7"), api.ErrThere)
	want(t, "files", len(d.List()), api.MaxFiles)
	done(t, d.Rename("f-7", "g"))
	want(t, "one more", d.Create("f-7"), api.ErrMany)
	done(t, d.Rename("g", "f-8"), d.Create("f-7"))
	want(t, "one more", d.Create("h"), api.ErrMany)
	done(t, d.Delete("f-0"), d.Create("h"))
	want(t, "files", len(d.List()), api.MaxFiles)
}

// TestCreate: P2.2, empty, and each file its own.
func TestCreate(t *testing.T) {
	d := fresh(t, 10)
	done(t, d.Create("a"), d.Append("a", "x"), d.Create("b"))
	holds(t, d, "a", "x", 1)
	holds(t, d, "b", "", 0)
	done(t, d.Delete("a"), d.Create("a"))
	holds(t, d, "a", "", 0)
}

// TestAppend: P2.2, loose, behind what is there, up to the last byte of room.
func TestAppend(t *testing.T) {
	d := fresh(t, 6)
	done(t, d.Create("a"), d.Create("b"), d.Append("a", "12"), d.Append("b", "x"), d.Append("a", "\x00"))
	holds(t, d, "a", "12\x00", 3)
	want(t, "too much", d.Append("b", "yyy"), api.ErrFull)
	holds(t, d, "b", "x", 1)
	done(t, d.Append("b", "yy"), d.Append("a", ""))
	want(t, "full", d.Append("a", "3"), api.ErrFull)
	want(t, "none is ahead of full", d.Append("c", "3"), api.ErrNone)
	done(t, d.Delete("b"), d.Append("a", "345"))
	holds(t, d, "a", "12\x00345", 6)
}

// TestSync: P2.2, that file's bytes last, no other's.
func TestSync(t *testing.T) {
	d := fresh(t, 10)
	done(t, d.Create("a"), d.Create("b"), d.Append("a", "12"), d.Append("b", "34"), d.Sync("a"), d.Append("a", "5"))
	holds(t, d, "a", "125", 1)
	holds(t, d, "b", "34", 2)
	d.Crash(nil)
	holds(t, d, "a", "12", 0)
	holds(t, d, "b", "", 0)
}

// TestRename: P2.2, the bytes go with the file, lasting and loose; one that had the name is gone.
func TestRename(t *testing.T) {
	d := twoFiles(t)
	done(t, d.Rename("a", "a"))
	holds(t, d, "a", "12345", 3)
	done(t, d.Rename("a", "b"))
	listed(t, d, "b")
	holds(t, d, "b", "12345", 3)
	want(t, "used", d.Used(), 5)
	want(t, "the old name", d.Sync("a"), api.ErrNone)
	done(t, d.Create("a"), d.Append("a", strings.Repeat("x", 15)), d.Rename("b", "c"))
	listed(t, d, "a", "c")
	d.Crash([]api.Fate{{}, {Keep: 1}})
	holds(t, d, "a", "", 0)
	holds(t, d, "c", "123", 0)
}

// TestDelete: P2.2, it is gone, and its bytes' room is free.
func TestDelete(t *testing.T) {
	d := twoFiles(t)
	done(t, d.Delete("a"))
	listed(t, d, "b")
	want(t, "used", d.Used(), 5)
	want(t, "loose", d.Loose("a"), 0)
	want(t, "again", d.Delete("a"), api.ErrNone)
	done(t, d.Append("b", strings.Repeat("x", 15)))
}
