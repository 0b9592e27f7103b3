package disk_test

import (
	"fmt"
	"slices"
	"strings"
	"testing"

	"bourse/api"
	"bourse/disk"
)

// model: the chapter told once more, as plain lists, without a map and without one function for all steps.
type model struct {
	files       []modelFile // rising by names
	room, steps int
	fuse, fault int
	down        bool
}

type modelFile struct{ name, lasting, loose string }

func (m *model) find(name string) int {
	return slices.IndexFunc(m.files, func(f modelFile) bool { return f.name == name })
}

func (m *model) used() int {
	n := 0
	for _, f := range m.files {
		n += len(f.lasting) + len(f.loose)
	}
	return n
}

// do: a step, by its own errors in their order and by what it does.
func (m *model) do(own []api.Errno, act func()) api.Errno {
	if m.down {
		return api.ErrPower
	}
	for _, e := range own {
		if e != api.OK {
			return e
		}
	}
	switch {
	case m.fuse == 0:
		m.down = true
		return api.ErrPower
	case m.fault == 0:
		m.fault = -1
		return api.ErrIO
	}
	m.fuse, m.fault = less(m.fuse), less(m.fault)
	m.steps++
	act()
	return api.OK
}

func less(n int) int {
	if n > 0 {
		return n - 1
	}
	return n
}

func errorIf(b bool, e api.Errno) api.Errno {
	if b {
		return e
	}
	return api.OK
}

func badName(s string) bool {
	return s == "" || len(s) > 32 || strings.Trim(s, "abcdefghijklmnopqrstuvwxyz0123456789-.") != ""
}

func (m *model) create(name string) api.Errno {
	own := []api.Errno{errorIf(badName(name), api.ErrName), errorIf(m.find(name) >= 0, api.ErrThere), errorIf(len(m.files) == 200, api.ErrMany)}
	return m.do(own, func() { m.put(modelFile{name: name}) })
}

func (m *model) put(f modelFile) {
	m.files = slices.DeleteFunc(m.files, func(g modelFile) bool { return g.name == f.name })
	m.files = append(m.files, f)
	slices.SortFunc(m.files, func(a, b modelFile) int { return strings.Compare(a.name, b.name) })
}

func (m *model) append(name, data string) api.Errno {
	i := m.find(name)
	own := []api.Errno{errorIf(i < 0, api.ErrNone), errorIf(m.used()+len(data) > m.room, api.ErrFull)}
	return m.do(own, func() { m.files[i].loose += data })
}

func (m *model) sync(name string) api.Errno {
	i := m.find(name)
	return m.do([]api.Errno{errorIf(i < 0, api.ErrNone)}, func() {
		m.files[i].lasting += m.files[i].loose
		m.files[i].loose = ""
	})
}

func (m *model) rename(from, to string) api.Errno {
	i := m.find(from)
	own := []api.Errno{errorIf(i < 0, api.ErrNone), errorIf(badName(to), api.ErrName)}
	return m.do(own, func() {
		f := m.files[i]
		m.files = slices.Delete(m.files, i, i+1)
		f.name = to
		m.put(f)
	})
}

func (m *model) delete(name string) api.Errno {
	i := m.find(name)
	return m.do([]api.Errno{errorIf(i < 0, api.ErrNone)}, func() { m.files = slices.Delete(m.files, i, i+1) })
}

func (m *model) crash(fates []api.Fate) {
	m.down, m.fuse, m.fault = false, -1, -1
	for i := range m.files {
		f := &m.files[i]
		if f.loose == "" {
			continue
		}
		fate := api.Fate{}
		if len(fates) > 0 {
			fate, fates = fates[0], fates[1:]
		}
		for at := 0; at < len(f.loose) && at < fate.Keep; at++ {
			b := f.loose[at]
			if at == fate.At {
				b ^= fate.Turn
			}
			f.lasting += string([]byte{b})
		}
		f.loose = ""
	}
}

func (m *model) picture() string {
	var s strings.Builder
	for _, f := range m.files {
		data, e := f.lasting+f.loose, api.OK
		if m.down {
			data, e = "", api.ErrPower
		}
		fmt.Fprintf(&s, "%s %q %d %d; ", f.name, data, len(f.loose), e)
	}
	fmt.Fprintf(&s, "used %d, steps %d", m.used(), m.steps)
	return s.String()
}

// draw: numbers that look like chance, the same each time.
type draw uint32

func (r *draw) below(n int) int {
	*r = *r*1664525 + 1013904223
	return int(*r>>8) % n
}

func (r *draw) of(l ...string) string { return l[r.below(len(l))] }

func (r *draw) fates() []api.Fate {
	l := make([]api.Fate, r.below(4))
	for i := range l {
		l[i] = api.Fate{Keep: r.below(12) - 2, At: r.below(12) - 2, Turn: byte(r.below(256))}
	}
	return l
}

// act: one call, of both; what they answered, and what it was.
func act(d *disk.Disk, m *model, r *draw) (got, wanted api.Errno, what string) {
	one := r.of("a", "b", "c", "d-1", "e.2", "", "A")
	two := r.of("a", "b", "c", "d-1", "e.2", "", "b_")
	switch k := r.below(16); k {
	case 0, 1, 2:
		return d.Create(one), m.create(one), "create " + one
	case 3, 4, 5, 6:
		data := "some bytes"[:r.below(11)]
		return d.Append(one, data), m.append(one, data), "append " + one + " " + data
	case 7, 8:
		return d.Sync(one), m.sync(one), "sync " + one
	case 9, 10:
		return d.Rename(one, two), m.rename(one, two), "rename " + one + " " + two
	case 11:
		return d.Delete(one), m.delete(one), "delete " + one
	case 12:
		n := r.below(12) - 2
		d.Fuse(n)
		m.fuse = n
		return 0, 0, fmt.Sprint("fuse ", n)
	case 13:
		n := r.below(12) - 2
		d.Fault(n)
		m.fault = n
		return 0, 0, fmt.Sprint("fault ", n)
	case 14:
		n := r.below(60)
		d.Room(n)
		m.room = n
		return 0, 0, fmt.Sprint("room ", n)
	default:
		l := r.fates()
		d.Crash(l)
		m.crash(l)
		return 0, 0, fmt.Sprint("crash ", l)
	}
}

// TestAgainstModel: P2.1 to P2.4, long rows of calls, each held against the model.
func TestAgainstModel(t *testing.T) {
	for seed := range 200 {
		r := draw(seed)
		d := fresh(t, 50)
		m := &model{room: 50, fuse: -1, fault: -1}
		for range 300 {
			got, wanted, what := act(d, m, &r)
			if got != wanted {
				t.Fatalf("seed %d: %s: %v, wanted %v", seed, what, got, wanted)
			}
			if d.Down() != m.down || picture(d) != m.picture() {
				t.Fatalf("seed %d: behind %s: %v %s, wanted %v %s", seed, what, d.Down(), picture(d), m.down, m.picture())
			}
		}
	}
}
