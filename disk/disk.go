// Package disk is layer 2: see shared/doc/02-disk.md.
package disk

import (
	"maps"
	"slices"
	"strings"

	"bourse/api"
)

// none is a fuse or a fault that isn't there.
const none = -1

// Disk is files.
type Disk struct {
	files map[string]*file
	room  int
	steps int
	fuse  int // below 0: none
	fault int // below 0: none
	down  bool
}

// file: its first bytes last, those behind are loose.
type file struct {
	data    []byte
	lasting int
}

// New: an empty one.
func New(room int) (*Disk, api.Errno) {
	if room < 0 || room > api.MaxDisk {
		return nil, api.ErrArg
	}
	return &Disk{files: map[string]*file{}, room: room, fuse: none, fault: none}, api.OK
}

// Create: an empty file.
func (d *Disk) Create(name string) api.Errno {
	if e := d.powered(); e != api.OK {
		return e
	}
	if !isName(name) {
		return api.ErrName
	}
	if d.files[name] != nil {
		return api.ErrThere
	}
	if len(d.files) >= api.MaxFiles {
		return api.ErrMany
	}
	if e := d.step(); e != api.OK {
		return e
	}
	d.files[strings.Clone(name)] = &file{}
	return api.OK
}

// Append: bytes behind a file's.
func (d *Disk) Append(name, data string) api.Errno {
	if e := d.powered(); e != api.OK {
		return e
	}
	f := d.files[name]
	if f == nil {
		return api.ErrNone
	}
	if len(data) > d.room-d.Used() {
		return api.ErrFull
	}
	if e := d.step(); e != api.OK {
		return e
	}
	f.data = append(f.data, data...)
	return api.OK
}

// Sync: a file's bytes last.
func (d *Disk) Sync(name string) api.Errno {
	if e := d.powered(); e != api.OK {
		return e
	}
	f := d.files[name]
	if f == nil {
		return api.ErrNone
	}
	if e := d.step(); e != api.OK {
		return e
	}
	f.lasting = len(f.data)
	return api.OK
}

// Rename: a file has another name.
func (d *Disk) Rename(from, to string) api.Errno {
	if e := d.powered(); e != api.OK {
		return e
	}
	f := d.files[from]
	if f == nil {
		return api.ErrNone
	}
	if !isName(to) {
		return api.ErrName
	}
	if e := d.step(); e != api.OK {
		return e
	}
	// The old name goes first: it may be the new one, too.
	delete(d.files, from)
	d.files[strings.Clone(to)] = f
	return api.OK
}

// Delete: a file is gone.
func (d *Disk) Delete(name string) api.Errno {
	if e := d.powered(); e != api.OK {
		return e
	}
	if d.files[name] == nil {
		return api.ErrNone
	}
	if e := d.step(); e != api.OK {
		return e
	}
	delete(d.files, name)
	return api.OK
}

// Read: a file's bytes.
func (d *Disk) Read(name string) (string, api.Errno) {
	if e := d.powered(); e != api.OK {
		return "", e
	}
	f := d.files[name]
	if f == nil {
		return "", api.ErrNone
	}
	return string(f.data), api.OK
}

// List: the names.
func (d *Disk) List() []string {
	if d == nil {
		return nil
	}
	return slices.Sorted(maps.Keys(d.files))
}

// Loose: how many bytes are.
func (d *Disk) Loose(name string) int {
	if d == nil || d.files[name] == nil {
		return 0
	}
	return d.files[name].loose()
}

// Used: how many bytes there are.
func (d *Disk) Used() int {
	if d == nil {
		return 0
	}
	n := 0
	for _, f := range d.files {
		n += len(f.data)
	}
	return n
}

// Steps: how many were done.
func (d *Disk) Steps() int {
	if d == nil {
		return 0
	}
	return d.steps
}

// Fuse: so many steps more.
func (d *Disk) Fuse(n int) {
	if d != nil {
		d.fuse = max(n, none)
	}
}

// Fault: ErrIO ahead of a step.
func (d *Disk) Fault(n int) {
	if d != nil {
		d.fault = max(n, none)
	}
}

// Room: for so many bytes.
func (d *Disk) Room(n int) {
	if d != nil {
		d.room = min(max(n, 0), api.MaxDisk)
	}
}

// Down: is the power gone?
func (d *Disk) Down() bool { return d != nil && d.down }

// Crash: what wasn't synced meets its fate.
func (d *Disk) Crash(fates []api.Fate) {
	if d == nil {
		return
	}
	d.down = false
	d.fuse, d.fault = none, none
	next := 0
	for _, name := range d.List() {
		f := d.files[name]
		if f.loose() == 0 {
			continue
		}
		var fate api.Fate
		if next < len(fates) {
			fate = fates[next]
		}
		next++
		f.meet(fate)
	}
}

// powered: what every call that needs the power asks first.
func (d *Disk) powered() api.Errno {
	if d == nil {
		return api.ErrNil
	}
	if d.down {
		return api.ErrPower
	}
	return api.OK
}

// step: whether a step that has no error of its own is done; it is counted then.
func (d *Disk) step() api.Errno {
	if d.fuse == 0 {
		d.down = true
		return api.ErrPower
	}
	if d.fault == 0 {
		d.fault = none
		return api.ErrIO
	}
	if d.fuse > 0 {
		d.fuse--
	}
	if d.fault > 0 {
		d.fault--
	}
	d.steps++
	return api.OK
}

func (f *file) loose() int { return len(f.data) - f.lasting }

// meet: what of the loose bytes the fate keeps lasts from now on.
func (f *file) meet(fate api.Fate) {
	keep := min(max(fate.Keep, 0), f.loose())
	if fate.At >= 0 && fate.At < keep {
		f.data[f.lasting+fate.At] ^= fate.Turn
	}
	f.lasting += keep
	f.data = f.data[:f.lasting]
}

func isName(s string) bool {
	if len(s) < 1 || len(s) > api.MaxName {
		return false
	}
	for i := range len(s) {
		if !inName(s[i]) {
			return false
		}
	}
	return true
}

func inName(b byte) bool {
	return b >= 'a' && b <= 'z' || b >= '0' && b <= '9' || b == '-' || b == '.'
}
