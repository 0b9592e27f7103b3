package manifest_test

import (
	"fmt"
	"math"
	"slices"
	"strconv"
	"testing"

	"bourse/api"
	"bourse/disk"
	"bourse/edit"
	"bourse/manifest"
	"bourse/version"
)

// TestExample: the chapter's.
func TestExample(t *testing.T) {
	d := fresh(t)
	made(t, d, 1, manifest.State{})
	loaded(t, "the example", d, "m-1", manifest.State{})
}

// TestCreateByHand: P14.2, both files' bytes, all of which last.
func TestCreateByHand(t *testing.T) {
	d := fresh(t)
	m := made(t, d, 7, manifest.State{Log: 1, Next: 2, Seq: 300, Version: of(nil, []edit.File{{Number: 3, Size: 4, Count: 5, Least: "a", Most: "bc"}})})
	record := "\x01\x02\xac\x02\x01\x01\x03\x04\x05\x01a\x02bc\x00"
	holds(t, d, "m-7", sum("\x01"+record)+"\x0f\x00\x01"+record)
	holds(t, d, "current", "m-7"+sum("m-7"))
	list(t, "files", d.List(), "current", "m-7")
	want(t, "steps", d.Steps(), 7)
	want(t, "Name", m.Name(), "m-7")
	want(t, "Len", m.Len(), 22)
}

// TestCreateNumbers: P14.2, any number.
func TestCreateNumbers(t *testing.T) {
	for _, n := range []uint64{0, 1, 9, 10, 1 << 32, math.MaxUint64} {
		d := fresh(t)
		m := made(t, d, n, some())
		name := "m-" + strconv.FormatUint(n, 10)
		want(t, "Name", m.Name(), name)
		state(t, "State", m.State(), some())
		bytes := log(t, some().Edit())
		want(t, "Len", m.Len(), len(bytes))
		holds(t, d, name, bytes)
		holds(t, d, "current", name+sum(name))
		list(t, "files", d.List(), "current", name)
		loaded(t, name, d, name, some())
	}
}

// littered: a disk with a manifest that counts, and files in the way of another one.
func littered(t *testing.T) *disk.Disk {
	t.Helper()
	d := fresh(t)
	done(t, made(t, d, 1, some()).Add(edit.Edit{Seq: 78}))
	put(t, d, "m-2", "litter")
	put(t, d, "current.new", "m-3"+sum("m-3"))
	done(t, d.Append("m-2", "loose"), d.Append("current.new", "loose"))
	put(t, d, "t-2", "another one's")
	return d
}

// TestCreateOverLitter: P14.2, what is in the way is deleted; nothing else is touched.
func TestCreateOverLitter(t *testing.T) {
	d := littered(t)
	before := d.Steps()
	old, _ := d.Read("m-1")
	s := manifest.State{Seq: 90}
	m := made(t, d, 2, s)
	want(t, "steps", d.Steps()-before, 9)
	state(t, "State", m.State(), s)
	holds(t, d, "m-2", log(t, s.Edit()))
	holds(t, d, "current", "m-2"+sum("m-2"))
	holds(t, d, "m-1", old)
	holds(t, d, "t-2", "another one's")
	list(t, "files", d.List(), "current", "m-1", "m-2", "t-2")
	loaded(t, "the next", d, "m-2", s)
	again := made(t, d, 2, some())
	state(t, "of the same number", again.State(), some())
	loaded(t, "of the same number", d, "m-2", some())
	list(t, "files", d.List(), "current", "m-1", "m-2", "t-2")
}

// stages: what the files in the way are behind so many of Create's steps; no text: there is no such file.
func stages(record string) []map[string]string {
	now := map[string]string{"m-2": "litterloose", "current.new": "m-3" + sum("m-3") + "loose", "current": "m-1" + sum("m-1")}
	l := []map[string]string{}
	step := func(change func()) {
		kept := map[string]string{}
		for k, v := range now {
			kept[k] = v
		}
		l = append(l, kept)
		change()
	}
	step(func() { delete(now, "m-2") })
	step(func() { now["m-2"] = "" })
	step(func() { now["m-2"] = record })
	step(func() {}) // synced
	step(func() { delete(now, "current.new") })
	step(func() { now["current.new"] = "" })
	step(func() { now["current.new"] = "m-2" + sum("m-2") })
	step(func() {}) // synced
	step(func() {})
	return l
}

// loose: how many bytes of the two files are, behind so many steps.
func loose(n int, record string) (manifest, current int) {
	switch {
	case n == 0:
		manifest = 5
	case n == 3:
		manifest = len(record)
	}
	switch {
	case n < 5:
		current = 5
	case n == 7:
		current = 3 + 4
	}
	return manifest, current
}

// TestCreateSteps: P14.2, step by step, each with an error of the disk: that is the answer, and no step is done behind it.
func TestCreateSteps(t *testing.T) {
	s := manifest.State{Seq: 90}
	record := log(t, s.Edit())
	for n, files := range stages(record) {
		for _, wanted := range []api.Errno{api.ErrIO, api.ErrPower} {
			what := fmt.Sprintf("%v at the step %d", wanted, n)
			d := littered(t)
			before := d.Steps()
			if wanted == api.ErrIO {
				d.Fault(n)
			} else {
				d.Fuse(n)
			}
			m, e := manifest.Create(d, 2, s)
			want(t, what, e, wanted)
			want(t, what+": beside the error", m, nil)
			want(t, what+": steps", d.Steps()-before, n)
			ofManifest, ofCurrent := loose(n, record)
			want(t, what+": loose in m-2", d.Loose("m-2"), ofManifest)
			want(t, what+": loose in current.new", d.Loose("current.new"), ofCurrent)
			if wanted == api.ErrPower {
				d.Crash([]api.Fate{{Keep: math.MaxInt}, {Keep: math.MaxInt}})
			}
			for _, name := range []string{"m-2", "current.new", "current"} {
				got, _ := d.Read(name)
				_, there := files[name]
				want(t, what+": "+name+" is there", slices.Contains(d.List(), name), there)
				bytes(t, what+": "+name, got, files[name])
			}
			before = d.Steps()
			loaded(t, what, d, "m-1", then(t, some(), edit.Edit{Seq: 78}))
			want(t, what+": Load's steps", d.Steps(), before)
			made(t, d, 2, s)
			loaded(t, what+", then anew", d, "m-2", s)
		}
	}
}

// TestCreateDisk: P14.2, other errors of the disk.
func TestCreateDisk(t *testing.T) {
	m, e := manifest.Create(nil, 1, some())
	want(t, "no disk", e == api.ErrNil && m == nil, true)

	d := fresh(t)
	d.Fuse(0)
	want(t, "the power goes", d.Create("a"), api.ErrPower)
	m, e = manifest.Create(d, 1, some())
	want(t, "no power", e == api.ErrPower && m == nil, true)
	d.Crash(nil)
	unloaded(t, "nothing there", d, api.ErrNone)

	record := log(t, some().Edit())
	for _, c := range []struct {
		room int
		want api.Errno
	}{{0, api.ErrFull}, {len(record) - 1, api.ErrFull}, {len(record), api.ErrFull}, {len(record) + 6, api.ErrFull}, {len(record) + 7, api.OK}} {
		d, _ := disk.New(c.room)
		m, e := manifest.Create(d, 1, some())
		want(t, fmt.Sprint("room for ", c.room), e, c.want)
		want(t, "a manifest", m != nil, c.want == api.OK)
	}

	for _, c := range []struct {
		files int
		want  api.Errno
	}{{198, api.OK}, {199, api.ErrMany}, {200, api.ErrMany}} {
		d := fresh(t)
		for i := range c.files {
			done(t, d.Create(fmt.Sprint("t-", i)))
		}
		m, e := manifest.Create(d, 1, some())
		want(t, fmt.Sprint(c.files, " files"), e, c.want)
		want(t, "a manifest", m != nil, c.want == api.OK)
	}
}

// bad: states whose edit has an error of layer 12.
func bad() map[api.Errno]manifest.State {
	var many []edit.File
	for i := range 201 {
		many = append(many, file(uint64(300-i), "a", "b"))
	}
	return map[api.Errno]manifest.State{
		api.ErrMany:  {Version: of(many)},
		api.ErrKey:   {Version: of(nil, nil, nil, []edit.File{file(1, "b", "a")})},
		api.ErrRange: {Version: of(nil, []edit.File{file(0, "a", "b")})},
	}
}

// TestCreateBad: P14.2, layer 12's error of the edit, ahead of all: no step is done.
func TestCreateBad(t *testing.T) {
	for wanted, s := range bad() {
		what := wanted.Error()
		d := littered(t)
		files := d.List()
		before := d.Steps()
		d.Fault(0)
		m, e := manifest.Create(d, 2, s)
		want(t, what, e, wanted)
		want(t, what+": beside it", m, nil)
		want(t, what+": steps", d.Steps(), before)
		list(t, what+": files", d.List(), files...)
		loaded(t, what, d, "m-1", then(t, some(), edit.Edit{Seq: 78}))

		_, e = manifest.Create(nil, 2, s)
		want(t, what+", no disk", e, wanted)
		d.Fault(-1)
		d.Fuse(0)
		want(t, "the power goes", d.Sync("m-1"), api.ErrPower)
		_, e = manifest.Create(d, 2, s)
		want(t, what+", no power", e, wanted)
	}
	var most []edit.File
	for i := range 200 {
		most = append(most, file(uint64(300-i), "a", "b"))
	}
	d := fresh(t)
	s := manifest.State{Version: of(most)}
	state(t, "200 files", made(t, d, 1, s).State(), s)
	loaded(t, "200 files", d, "m-1", s)
}

// TestCreateWrong: P14.2, only layer 12's errors are looked for: a version that is wrong by its order alone is told in order, of others no record can tell anything.
func TestCreateWrong(t *testing.T) {
	for i, v := range wrong() {
		d := fresh(t)
		s := manifest.State{Version: v, Log: 3}
		m := made(t, d, 1, s)
		holds(t, d, "m-1", log(t, s.Edit()))
		holds(t, d, "current", "m-1"+sum("m-1"))
		if i > 0 {
			state(t, "State", m.State(), s)
			want(t, "Add", m.Add(edit.Edit{Log: 4}), api.ErrBroken)
			unloaded(t, "a wrong version", d, api.ErrBroken)
			continue
		}
		sorted, e := version.Version{}.Apply(v.Files())
		want(t, "Apply", e, api.OK)
		s.Version = sorted
		state(t, "State", m.State(), s)
		loaded(t, "a version out of order", d, "m-1", s)
		want(t, "Add", m.Add(edit.Edit{Log: 4}), api.OK)
		loaded(t, "a version out of order, gone on with", d, "m-1", then(t, s, edit.Edit{Log: 4}))
	}
}
