package manifest_test

import (
	"fmt"
	"math"
	"testing"

	"bourse/api"
	"bourse/disk"
	"bourse/edit"
	"bourse/manifest"
)

// begun: a disk whose manifest was added to.
func begun(t *testing.T) (*disk.Disk, *manifest.Manifest) {
	t.Helper()
	d := fresh(t)
	m := made(t, d, 1, some())
	done(t, m.Add(edit.Edit{Log: 6, Go: gone(0, 9)}))
	return d, m
}

// either: Load tells what was told ahead, or what was under way; which of them, as a number.
func either(t *testing.T, what string, d *disk.Disk, names [2]string, ahead, behind manifest.State) int {
	t.Helper()
	name, s, e := manifest.Load(d)
	want(t, what+": Load", e, api.OK)
	if name == names[0] && equal(s, ahead) {
		return 0
	}
	if name != names[1] || !equal(s, behind) {
		t.Errorf("%s: %s tells %v", what, name, s)
	}
	return 1
}

// fates: all first parts of so many bytes, each with none turned, and with a bit of each of its bytes.
func fates(n int, try func(api.Fate)) {
	for keep := range n + 1 {
		try(api.Fate{Keep: keep})
		for at := range keep {
			for bit := range 8 {
				try(api.Fate{Keep: keep, At: at, Turn: 1 << bit})
			}
		}
	}
}

// TestCrashInAdd: P14.5, the power goes ahead of each step of an Add, whatever becomes of what is loose.
func TestCrashInAdd(t *testing.T) {
	e := edit.Edit{Log: 7, Next: 13, Come: come(1, file(12, "f", "g")), Go: gone(1, 4)}
	for n := range 3 {
		told := map[int]int{}
		d, m := begun(t)
		ahead, bytes := m.State(), m.Len()
		behind := then(t, ahead, e)
		done(t, m.Add(e))
		all := m.Len() - bytes
		fates(all, func(f api.Fate) {
			d, m = begun(t)
			d.Fuse(n)
			err := m.Add(e)
			d.Crash([]api.Fate{f})
			what := fmt.Sprintf("behind %d steps, %v", n, f)
			want(t, what, err == api.OK, n == 2)
			which := either(t, what, d, [2]string{"m-1", "m-1"}, ahead, behind)
			want(t, what+": whole", which == 1, n == 2 || n == 1 && f.Turn == 0 && f.Keep == all)
			told[which]++
		})
		if n == 1 {
			want(t, "both were told", told[0] > 0 && told[1] > 0, true)
		}
	}
}

// TestCrashInLongAdd: P14.5, as that, of a record that goes over blocks.
func TestCrashInLongAdd(t *testing.T) {
	var e edit.Edit
	for i := range 7 {
		e.Come = append(e.Come, edit.At{Level: 0, File: file(uint64(20+i), x(100), x(100+i))})
	}
	d, m := begun(t)
	ahead, bytes := m.State(), m.Len()
	behind := then(t, ahead, e)
	done(t, m.Add(e))
	all := m.Len() - bytes
	want(t, "blocks", all > 2*api.Block, true)
	for keep := range all + 1 {
		for at := -1; at < keep; at += 97 {
			d, m = begun(t)
			d.Fuse(1)
			want(t, "Add", m.Add(e), api.ErrPower)
			d.Crash([]api.Fate{{Keep: keep, At: at, Turn: 0x10}})
			which := either(t, fmt.Sprint(keep, " kept"), d, [2]string{"m-1", "m-1"}, ahead, behind)
			want(t, "whole", which == 1, keep == all && at < 0)
		}
	}
}

// TestCrashInCreate: P14.5, the power goes ahead of each step of a Create, with files in its way and without, whatever becomes of what is loose.
func TestCrashInCreate(t *testing.T) {
	s := manifest.State{Log: 7, Next: 20, Seq: 90, Version: of([]edit.File{file(15, "a", "b")})}
	for _, start := range []struct {
		begin func() *disk.Disk
		steps int
	}{
		{func() *disk.Disk { d, _ := begun(t); return d }, 7},
		{func() *disk.Disk { return littered(t) }, 9},
	} {
		_, ahead, _ := manifest.Load(start.begin())
		for n := range start.steps + 2 {
			fates(len(log(t, s.Edit())), func(f api.Fate) {
				d := start.begin()
				d.Fuse(n)
				_, err := manifest.Create(d, 2, s)
				d.Crash([]api.Fate{f, f})
				what := fmt.Sprintf("behind %d steps, %v", n, f)
				want(t, what, err == api.OK, n >= start.steps)
				which := either(t, what, d, [2]string{"m-1", "m-2"}, ahead, s)
				want(t, what+": it counts", which == 1, n >= start.steps)
			})
		}
	}
}

// TestFirstCreate: P14.5, on a disk without a manifest there is none, till there is.
func TestFirstCreate(t *testing.T) {
	for n := range 9 {
		for _, f := range []api.Fate{{}, {Keep: 3}, {Keep: 8, At: 5, Turn: 1}, {Keep: math.MaxInt}} {
			d := fresh(t)
			d.Fuse(n)
			_, err := manifest.Create(d, 1, some())
			d.Crash([]api.Fate{f, f})
			want(t, "Create", err == api.OK, n >= 7)
			if n < 7 {
				unloaded(t, fmt.Sprint("behind ", n), d, api.ErrNone)
				made(t, d, 1, some())
			}
			loaded(t, fmt.Sprint("behind ", n), d, "m-1", some())
		}
	}
}

// dice: numbers that look like chance, the same each time.
type dice uint64

func (d *dice) below(n int) int {
	*d = *d*6364136223846793005 + 1442695040888963407
	return int(uint64(*d>>33) % uint64(n))
}

// edit: one that may follow a state, mostly.
func (d *dice) edit(s manifest.State, next *uint64) edit.Edit {
	e := edit.Edit{Log: uint64(d.below(3) * d.below(9)), Next: *next, Seq: uint64(d.below(2) * d.below(500))}
	for range d.below(4) {
		n := d.below(40)
		e.Come = append(e.Come, edit.At{Level: d.below(5) % 4, File: file(*next, fmt.Sprintf("%02d", n), fmt.Sprintf("%02d", n+d.below(4)))})
		*next++
	}
	for level, l := range s.Version.Levels {
		for _, f := range l {
			if d.below(4) == 0 {
				e.Go = append(e.Go, edit.Gone{Level: level, Number: f.Number})
			}
		}
	}
	return e
}

// TestModel: P14.2 to P14.5, Creates and Adds as it comes, with faults, a power that goes, and crashes.
func TestModel(t *testing.T) {
	d := dice(5)
	seen := map[api.Errno]int{}
	kept := map[int]int{}
	for range 400 {
		k := fresh(t)
		next, number := uint64(1), uint64(1)
		m := made(t, k, number, manifest.State{})
		name, s := m.Name(), manifest.State{}
		for range 40 {
			if d.below(6) == 0 {
				k.Fuse(d.below(12))
			}
			if d.below(12) == 0 {
				k.Fault(d.below(12))
			}
			names, behind, e := [2]string{name, name}, manifest.State{}, api.OK
			if create := m == nil || d.below(9) == 0; create {
				number++
				behind = s
				behind.Seq += 1000
				names[1] = fmt.Sprint("m-", number)
				m, e = manifest.Create(k, number, behind)
			} else {
				change := d.edit(s, &next)
				var err api.Errno
				behind, err = s.Then(change)
				if e = m.Add(change); err != api.OK {
					want(t, "refused", e, err)
					behind = s
				}
			}
			seen[e]++
			if e == api.OK {
				name, s = names[1], behind
			}
			if e == api.ErrIO && m != nil {
				want(t, "behind an error", m.Add(edit.Edit{}), api.ErrBroken)
			}
			if e == api.ErrIO || k.Down() || d.below(10) == 0 {
				k.Crash([]api.Fate{{Keep: d.below(80), At: d.below(80), Turn: byte(d.below(3) * d.below(256))}, {Keep: d.below(20)}})
				m = nil
			}
			which := either(t, "Load", k, [2]string{name, names[1]}, s, behind)
			if e != api.OK {
				kept[which]++
			}
			// What was under way, if it is told, is told from now on.
			name, s, _ = manifest.Load(k)
			if m != nil {
				state(t, "State", m.State(), s)
				file, _ := k.Read(name)
				want(t, "Len", m.Len(), len(file))
				want(t, "Name", m.Name(), name)
			}
			if t.Failed() {
				return
			}
		}
	}
	for _, e := range []api.Errno{api.OK, api.ErrIO, api.ErrPower, api.ErrBroken} {
		want(t, fmt.Sprintf("%v came often", e), seen[e] > 100, true)
	}
	want(t, "both were kept", kept[0] > 100 && kept[1] > 20, true)
}
