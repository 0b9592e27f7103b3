package manifest_test

import (
	"encoding/binary"
	"hash/crc32"
	"math/bits"
	"slices"
	"strings"
	"testing"

	"bourse/api"
	"bourse/disk"
	"bourse/edit"
	"bourse/frame"
	"bourse/manifest"
	"bourse/version"
)

// want: a test fails, if something is another thing than was wanted.
func want[T comparable](t *testing.T, what string, got, wanted T) {
	t.Helper()
	if got != wanted {
		t.Errorf("%s: %v, wanted %v", what, got, wanted)
	}
}

// list: as want, of lists.
func list[T comparable](t *testing.T, what string, got []T, wanted ...T) {
	t.Helper()
	if !slices.Equal(got, wanted) {
		t.Errorf("%s: %v, wanted %v", what, got, wanted)
	}
}

// bytes: as want, of bytes.
func bytes(t *testing.T, what, got, wanted string) {
	t.Helper()
	if got != wanted {
		t.Errorf("%s: %d bytes %x, wanted %d bytes %x", what, len(got), got, len(wanted), wanted)
	}
}

// equal: are two states the same, level by level, file by file?
func equal(a, b manifest.State) bool {
	for level, l := range a.Version.Levels {
		if !slices.Equal(l, b.Version.Levels[level]) {
			return false
		}
	}
	return a.Log == b.Log && a.Next == b.Next && a.Seq == b.Seq
}

// state: as want, of states.
func state(t *testing.T, what string, got, wanted manifest.State) {
	t.Helper()
	if !equal(got, wanted) {
		t.Errorf("%s: %v, wanted %v", what, got, wanted)
	}
}

func x(n int) string { return strings.Repeat("x", n) }

// file: one of a number, with keys from and to some.
func file(number uint64, least, most string) edit.File {
	return edit.File{Number: number, Size: number * 10, Count: number + 1, Least: least, Most: most}
}

// come: files that come to a level.
func come(level int, l ...edit.File) []edit.At {
	var all []edit.At
	for _, f := range l {
		all = append(all, edit.At{Level: level, File: f})
	}
	return all
}

// gone: numbers that go from a level.
func gone(level int, l ...uint64) []edit.Gone {
	var all []edit.Gone
	for _, n := range l {
		all = append(all, edit.Gone{Level: level, Number: n})
	}
	return all
}

// of: a version of these levels.
func of(levels ...[]edit.File) version.Version {
	var v version.Version
	copy(v.Levels[:], levels)
	return v
}

// some: a state with files on all levels.
func some() manifest.State {
	return manifest.State{Log: 5, Next: 10, Seq: 77, Version: of(
		[]edit.File{file(9, "a", "z"), file(8, "b", "y")},
		[]edit.File{file(4, "b", "c"), file(7, "d", "e")},
		[]edit.File{file(3, "\x00", "\xff")},
		[]edit.File{file(1, "a", x(200)), file(2, "y", "y")})}
}

// wrong: versions that no edit makes; the first one is so only by its order.
func wrong() []version.Version {
	return []version.Version{
		of([]edit.File{file(1, "a", "b"), file(2, "a", "b")}, []edit.File{file(4, "x", "y"), file(5, "c", "d")}),
		of(nil, []edit.File{file(4, "a", "c"), file(5, "b", "d")}),
		of([]edit.File{file(4, "a", "c")}, []edit.File{file(4, "b", "d")}),
		of(nil, nil, nil, []edit.File{file(4, "a", "c"), file(4, "a", "c")}),
	}
}

// refusals: edits that are refused behind the state some.
func refusals() []struct {
	what string
	e    edit.Edit
	want api.Errno
} {
	return []struct {
		what string
		e    edit.Edit
		want api.Errno
	}{
		{"201 come", edit.Edit{Come: slices.Repeat(come(0, file(20, "a", "b")), 201)}, api.ErrMany},
		{"201 go", edit.Edit{Go: slices.Repeat(gone(0, 9), 201)}, api.ErrMany},
		{"to the level 4", edit.Edit{Come: come(4, file(20, "a", "b"))}, api.ErrLevel},
		{"from the level -1", edit.Edit{Go: gone(-1, 9)}, api.ErrLevel},
		{"no key", edit.Edit{Come: come(0, file(20, "", "b"))}, api.ErrKey},
		{"a key of 201", edit.Edit{Come: come(0, file(20, "a", x(201)))}, api.ErrKey},
		{"keys turned round", edit.Edit{Come: come(0, file(20, "b", "a"))}, api.ErrKey},
		{"the number 0 comes", edit.Edit{Come: come(0, file(0, "a", "b"))}, api.ErrRange},
		{"one that isn't there goes", edit.Edit{Go: gone(0, 20)}, api.ErrNone},
		{"one of another level goes", edit.Edit{Go: gone(0, 4)}, api.ErrNone},
		{"one goes twice", edit.Edit{Go: gone(0, 9, 9)}, api.ErrNone},
		{"a number that is there", edit.Edit{Come: come(0, file(1, "a", "b"))}, api.ErrBroken},
		{"it overlaps", edit.Edit{Come: come(1, file(20, "c", "cc"))}, api.ErrBroken},
		{"numbers beside an error", edit.Edit{Log: 6, Next: 21, Seq: 78, Go: gone(0, 20)}, api.ErrNone},
	}
}

// sum: by the library, masked, its lowest byte first.
func sum(s string) string {
	n := crc32.Checksum([]byte(s), crc32.MakeTable(crc32.Castagnoli))
	return string(binary.LittleEndian.AppendUint32(nil, bits.RotateLeft32(n, 17)+0xa282ead8))
}

// fresh: an empty disk.
func fresh(t *testing.T) *disk.Disk {
	t.Helper()
	d, e := disk.New(1 << 20)
	want(t, "New", e, api.OK)
	return d
}

// holds: a file's bytes, all of which last.
func holds(t *testing.T, d *disk.Disk, name, wanted string) {
	t.Helper()
	s, e := d.Read(name)
	want(t, name, e, api.OK)
	bytes(t, name, s, wanted)
	want(t, name+": loose", d.Loose(name), 0)
}

// put: a file is these bytes, all of which last.
func put(t *testing.T, d *disk.Disk, name, data string) {
	t.Helper()
	if e := d.Delete(name); e != api.OK && e != api.ErrNone {
		t.Fatal(e)
	}
	done(t, d.Create(name), d.Append(name, data), d.Sync(name))
}

// done: none had an error.
func done(t *testing.T, l ...api.Errno) {
	t.Helper()
	for i, e := range l {
		if e != api.OK {
			t.Fatalf("the call of place %d: %v", i, e)
		}
	}
}

// log: edits' bytes, one behind the other.
func log(t *testing.T, l ...edit.Edit) string {
	t.Helper()
	s := ""
	for _, e := range l {
		record, err := e.Bytes()
		want(t, "Bytes", err, api.OK)
		s += frame.Lay(len(s), record)
	}
	return s
}

// made: a manifest that was created.
func made(t *testing.T, d *disk.Disk, number uint64, s manifest.State) *manifest.Manifest {
	t.Helper()
	m, e := manifest.Create(d, number, s)
	if e != api.OK || m == nil {
		t.Fatalf("Create: %v", e)
	}
	return m
}

// loaded: what the manifest that counts tells, as wanted.
func loaded(t *testing.T, what string, d *disk.Disk, name string, wanted manifest.State) {
	t.Helper()
	got, s, e := manifest.Load(d)
	want(t, what+": Load", e, api.OK)
	want(t, what+": the name", got, name)
	state(t, what+": the state", s, wanted)
}

// unloaded: an error, and nothing beside it.
func unloaded(t *testing.T, what string, d *disk.Disk, wanted api.Errno) {
	t.Helper()
	name, s, e := manifest.Load(d)
	want(t, what+": Load", e, wanted)
	want(t, what+": the name", name, "")
	state(t, what+": the state", s, manifest.State{})
}

// then: the state behind edits that can be.
func then(t *testing.T, s manifest.State, l ...edit.Edit) manifest.State {
	t.Helper()
	for _, e := range l {
		next, err := s.Then(e)
		want(t, "Then", err, api.OK)
		s = next
	}
	return s
}
