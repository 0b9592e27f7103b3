package manifest_test

import (
	"fmt"
	"math"
	"slices"
	"testing"

	"bourse/api"
	"bourse/disk"
	"bourse/edit"
	"bourse/manifest"
)

// TestAdd: P14.3, edit by edit: the record behind those that are there, synced; the state behind it.
func TestAdd(t *testing.T) {
	d := fresh(t)
	m := made(t, d, 1, some())
	edits := []edit.Edit{some().Edit()}
	s := some()
	for _, e := range []edit.Edit{
		{},
		{Log: 6},
		{Next: 12, Come: come(0, file(11, "c", "d"), file(10, "c", "d"))},
		{Seq: 80, Go: append(gone(0, 11, 8), gone(2, 3)...)},
		{Log: 1, Next: 1, Seq: 1, Come: come(1, file(20, "a", "z")), Go: gone(1, 4, 7)},
		{Go: append(gone(0, 9, 10), append(gone(1, 20), gone(3, 1, 2)...)...)},
		{Come: come(0, file(11, x(200), x(200)))},
	} {
		before := d.Steps()
		want(t, "Add", m.Add(e), api.OK)
		want(t, "steps", d.Steps()-before, 2)
		edits, s = append(edits, e), then(t, s, e)
		holds(t, d, "m-1", log(t, edits...))
		want(t, "Len", m.Len(), len(log(t, edits...)))
		state(t, "State", m.State(), s)
		loaded(t, "behind it", d, "m-1", s)
		list(t, "files", d.List(), "current", "m-1")
	}
	holds(t, d, "current", "m-1"+sum("m-1"))
	want(t, "Name", m.Name(), "m-1")
}

// TestAddOverBlocks: P14.3, records go on over blocks, and stand behind noughts, wherever they begin.
func TestAddOverBlocks(t *testing.T) {
	d := fresh(t)
	m := made(t, d, 1, manifest.State{})
	var edits []edit.Edit
	edits = append(edits, edit.Edit{})
	s := manifest.State{}
	for i := range 300 {
		e := edit.Edit{Seq: uint64(i + 1)}
		for j := range i % 4 {
			n := uint64(i*4 + j + 1)
			e.Come = append(e.Come, edit.At{Level: i % 4, File: file(n, fmt.Sprintf("%08d", n), fmt.Sprintf("%08d%s", n, x(i%150)))})
		}
		want(t, "Add", m.Add(e), api.OK)
		edits, s = append(edits, e), then(t, s, e)
	}
	bytes := log(t, edits...)
	want(t, "blocks", len(bytes) > 80*api.Block, true)
	holds(t, d, "m-1", bytes)
	want(t, "Len", m.Len(), len(bytes))
	state(t, "State", m.State(), s)
	loaded(t, "all", d, "m-1", s)
}

// TestAddRefused: P14.3, what has an error changes nothing, and others may be added behind it.
func TestAddRefused(t *testing.T) {
	d := fresh(t)
	m := made(t, d, 1, some())
	bytes := log(t, some().Edit())
	for _, c := range refusals() {
		before := d.Steps()
		d.Fault(0) // none of the disk's errors comes ahead
		want(t, c.what, m.Add(c.e), c.want)
		d.Fault(-1)
		want(t, c.what+": steps", d.Steps(), before)
		holds(t, d, "m-1", bytes)
		state(t, c.what+": State", m.State(), some())
		want(t, c.what+": Len", m.Len(), len(bytes))
	}
	want(t, "one more", m.Add(edit.Edit{Log: 6}), api.OK)
	loaded(t, "one more", d, "m-1", then(t, some(), edit.Edit{Log: 6}))
	d.Fuse(0)
	want(t, "the power goes", d.Sync("m-1"), api.ErrPower)
	for _, c := range refusals() {
		want(t, c.what+", no power", m.Add(c.e), c.want)
	}
}

// broken: an Add had an error of the disk: each one is refused, whatever it tells, and does nothing.
func broken(t *testing.T, what string, d *disk.Disk, m *manifest.Manifest, wanted manifest.State) {
	t.Helper()
	before := d.Steps()
	want(t, what+": a good one", m.Add(edit.Edit{Log: 99}), api.ErrBroken)
	want(t, what+": of nothing", m.Add(edit.Edit{}), api.ErrBroken)
	for _, c := range refusals() {
		want(t, what+": "+c.what, m.Add(c.e), api.ErrBroken)
	}
	want(t, what+": steps", d.Steps(), before)
	state(t, what+": State", m.State(), wanted)
	want(t, what+": Name", m.Name(), "m-1")
}

// TestAddBroken: P14.3, the disk's error of each of its two steps.
func TestAddBroken(t *testing.T) {
	for n := range 2 {
		for _, wanted := range []api.Errno{api.ErrIO, api.ErrPower} {
			what := fmt.Sprintf("%v at the step %d", wanted, n)
			d := fresh(t)
			m := made(t, d, 1, some())
			done(t, m.Add(edit.Edit{Log: 6}))
			s := then(t, some(), edit.Edit{Log: 6})
			ahead := log(t, some().Edit(), edit.Edit{Log: 6})
			all := log(t, some().Edit(), edit.Edit{Log: 6}, edit.Edit{Log: 7})
			if wanted == api.ErrIO {
				d.Fault(n)
			} else {
				d.Fuse(n)
			}
			before := d.Steps()
			want(t, what, m.Add(edit.Edit{Log: 7}), wanted)
			want(t, what+": steps", d.Steps()-before, n)
			has := []string{ahead, all}[n]
			want(t, what+": loose", d.Loose("m-1"), len(has)-len(ahead))
			want(t, what+": Len", m.Len(), len(has))
			broken(t, what, d, m, s)
			if wanted == api.ErrIO {
				told, _ := d.Read("m-1")
				bytes(t, what+": the file", told, has)
				loaded(t, what, d, "m-1", []manifest.State{s, then(t, s, edit.Edit{Log: 7})}[n])
			}
			d.Crash([]api.Fate{{Keep: 3}})
			broken(t, what+", behind a crash", d, m, s)
			want(t, what+": Len behind a crash", m.Len(), len(ahead)+3*n)
			loaded(t, what+", behind a crash", d, "m-1", s)
		}
	}
}

// TestAddOtherErrors: P14.3, a disk that is full, and one whose file is gone.
func TestAddOtherErrors(t *testing.T) {
	d := fresh(t)
	m := made(t, d, 1, some())
	bytes := log(t, some().Edit())
	more := len(log(t, some().Edit(), edit.Edit{Log: 6})) - len(bytes)
	d.Room(d.Used() + more)
	want(t, "just room for it", m.Add(edit.Edit{Log: 6}), api.OK)
	d.Room(d.Used() + more - 1)
	want(t, "one byte lacks", m.Add(edit.Edit{Log: 7}), api.ErrFull)
	d.Room(1 << 20)
	broken(t, "full", d, m, then(t, some(), edit.Edit{Log: 6}))
	want(t, "Len", m.Len(), len(bytes)+more)
	loaded(t, "full", d, "m-1", then(t, some(), edit.Edit{Log: 6}))

	d = fresh(t)
	m = made(t, d, 1, some())
	done(t, d.Delete("m-1"))
	want(t, "the file is gone", m.Add(edit.Edit{Log: 6}), api.ErrNone)
	broken(t, "gone", d, m, some())
}

// TestTwo: P14.3, of two manifests each goes on by itself, whichever counts.
func TestTwo(t *testing.T) {
	d := fresh(t)
	a := made(t, d, 1, manifest.State{Log: 1})
	b := made(t, d, 2, manifest.State{Log: 2})
	done(t, a.Add(edit.Edit{Seq: 1}), b.Add(edit.Edit{Seq: 2}), a.Add(edit.Edit{Next: 1}))
	state(t, "the first one", a.State(), manifest.State{Log: 1, Next: 1, Seq: 1})
	state(t, "the second one", b.State(), manifest.State{Log: 2, Seq: 2})
	loaded(t, "the second one", d, "m-2", manifest.State{Log: 2, Seq: 2})
	holds(t, d, "m-1", log(t, edit.Edit{Log: 1}, edit.Edit{Seq: 1}, edit.Edit{Next: 1}))
	done(t, d.Delete("m-1"))
	done(t, b.Add(edit.Edit{Seq: 3}))
	loaded(t, "alone", d, "m-2", manifest.State{Log: 2, Seq: 3})
}

// TestBehindACrash: P14.3, a manifest whose Adds had no error goes on behind a crash: all of it lasted.
func TestBehindACrash(t *testing.T) {
	d := fresh(t)
	m := made(t, d, 1, some())
	d.Crash(nil)
	done(t, m.Add(edit.Edit{Log: 6}))
	d.Crash(slices.Repeat([]api.Fate{{Keep: math.MaxInt, Turn: 1}}, 5))
	done(t, m.Add(edit.Edit{Log: 7}))
	d.Crash(nil)
	loaded(t, "behind crashes", d, "m-1", then(t, some(), edit.Edit{Log: 7}))
}

// TestNil: P14.3, of nil ErrNil, zero.
func TestNil(t *testing.T) {
	var m *manifest.Manifest
	want(t, "Add", m.Add(edit.Edit{}), api.ErrNil)
	want(t, "Add of what is refused", m.Add(edit.Edit{Go: gone(9, 9)}), api.ErrNil)
	state(t, "State", m.State(), manifest.State{})
	want(t, "Name", m.Name(), "")
	want(t, "Len", m.Len(), 0)
}
