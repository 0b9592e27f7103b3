package store_test

import (
	"fmt"
	"slices"
	"testing"

	"bourse/api"
	"bourse/disk"
	"bourse/manifest"
	"bourse/store"
)

// model: a store, and what it must have.
type model struct {
	t       *testing.T
	c       *dice
	d       *disk.Disk
	s       *store.Store
	p       past
	handles []int
	at      map[int]uint64
	seen    map[api.Errno]int
	kept    [2]int
}

// check: all that is seen, at the last number and at each snapshot's.
func (m *model) check(what string) {
	m.t.Helper()
	holds(m.t, what, m.s, m.p)
	for _, h := range m.handles {
		at, e := m.s.At(h)
		want(m.t, what+": At", at == m.at[h] && e == api.OK, true)
		sees(m.t, what, m.s, m.p, at)
	}
	from, to := m.c.key(), m.c.key()
	wanted := within(m.p.seen(m.p.seq()), from, to)
	row(m.t, what+": a range", m.s.Range(from, to, m.p.seq()), wanted...)
	row(m.t, what+": a range, falling", m.s.Down(from, to, m.p.seq()), turned(wanted)...)
}

// numbers: those of the snapshots, rising.
func (m *model) numbers() []uint64 {
	var l []uint64
	for _, h := range m.handles {
		l = append(l, m.at[h])
	}
	slices.Sort(l)
	return l
}

// snap: a snapshot more, or one less.
func (m *model) snap() {
	if n := len(m.handles); n > 3 || n > 0 && m.c.below(2) == 0 {
		i := m.c.below(n)
		want(m.t, "Close", m.s.Close(m.handles[i]), api.OK)
		want(m.t, "Close again", m.s.Close(m.handles[i]), api.ErrHandle)
		m.handles = slices.Delete(m.handles, i, i+1)
		return
	}
	h := m.s.Snap()
	m.handles = append(m.handles, h)
	m.at[h] = m.p.seq()
}

// open: opened anew, with other options; no snapshots are left.
func (m *model) open() {
	m.s = opened(m.t, m.d, m.c.options())
	m.handles, m.at = nil, map[int]uint64{}
}

// write: some changes; false, where the store has no error to tell, but is closed.
func (m *model) write() ([]api.Change, api.Errno) {
	l := m.c.changes(5)
	e := m.s.Write(l...)
	if e == api.OK {
		m.p = m.p.with(l...)
	}
	return l, e
}

// TestModel: P17.1 to P17.5, as it comes, without errors: after each call all is as it must be.
func TestModel(t *testing.T) {
	for seed := range 40 {
		c := dice(seed)
		m := &model{t: t, c: &c, d: fresh(t)}
		m.open()
		for i := range 60 {
			what := fmt.Sprintf("seed %d, call %d", seed, i)
			switch c.below(10) {
			case 0:
				m.snap()
			case 1:
				m.open()
			case 2, 3, 4:
				level := c.below(6) - 1
				choice := c.below(9) - 4
				compacts(t, what, m.d, m.s, m.p, level, choice, m.numbers()...)
			case 5:
				if m.s.Memo() == 0 {
					want(t, what+": Flush", m.s.Flush(), api.ErrNone)
				} else {
					flushes(t, what, m.d, m.s, m.p)
				}
			default:
				m.writes(what)
			}
			m.check(what)
			sound(t, what, m.d, m.s)
			if t.Failed() {
				return
			}
		}
	}
}

// writes: a Write that is OK, and flushes where it has to.
func (m *model) writes(what string) {
	m.t.Helper()
	_, before, _ := manifest.Load(m.d)
	tables, size := m.s.Version().Count(), m.s.Memo()
	l, e := m.write()
	want(m.t, what+": Write", e, api.OK)
	for _, c := range l {
		size += len(c.Key) + len(c.Value) + 8
	}
	if o := m.s.Options(); o.Memo != 0 && size >= o.Memo {
		tables++
		size = 0
		f := m.s.Version().Levels[0][0]
		flushed(m.t, what+": by itself", m.d, m.s, before, entries(m.t, m.d, f.Number))
	}
	want(m.t, what+": tables", m.s.Version().Count(), tables)
	want(m.t, what+": Memo", m.s.Memo(), size)
}

// TestModelFaults: P17.2, P17.3, P17.5, as it comes, with steps that fail, a power that goes, a disk that is full, and crashes.
func TestModelFaults(t *testing.T) {
	seen := map[api.Errno]int{}
	kept := [2]int{}
	for seed := range 250 {
		c := dice(1000 + seed)
		m := &model{t: t, c: &c, d: fresh(t)}
		m.open()
		for i := range 40 {
			what := fmt.Sprintf("seed %d, call %d", seed, i)
			m.harm()
			var under []api.Change
			e := api.OK
			switch c.below(8) {
			case 0:
				m.snap()
			case 1, 2:
				e = m.s.Compact(c.below(3), c.below(4))
			case 3:
				e = m.s.Flush()
			case 4:
				_, e = store.Open(m.d, c.options())
				if e == api.OK {
					// What was opened twice is done by the newer one alone.
					m.d.Fuse(-1)
					m.d.Fault(-1)
					m.d.Room(1 << 20)
					m.open()
				}
			default:
				under, e = m.write()
			}
			seen[e]++
			m.check(what)
			if e != api.OK && e != api.ErrNone || m.s.ReadOnly() || c.below(12) == 0 {
				if m.s.ReadOnly() {
					shut(t, what, m.d, m.s, m.p)
				}
				m.anew(what, e, under, &kept)
			}
			if t.Failed() {
				return
			}
		}
	}
	for _, e := range []api.Errno{api.OK, api.ErrNone, api.ErrIO, api.ErrPower, api.ErrFull} {
		want(t, fmt.Sprintf("%v came often", e), seen[e] > 100, true)
	}
	want(t, fmt.Sprint("both were kept ", kept), kept[0] > 50 && kept[1] > 20, true)
}

// harm: now and then something will fail.
func (m *model) harm() {
	switch m.c.below(12) {
	case 0:
		m.d.Fuse(m.c.below(15))
	case 1:
		m.d.Fault(m.c.below(15))
	case 2:
		m.d.Room(m.d.Used() + m.c.below(300))
	}
}

// anew: mostly a crash, perhaps one within an Open, and then an Open: there is what was written, or that and what was under way.
func (m *model) anew(what string, e api.Errno, under []api.Change, kept *[2]int) {
	m.t.Helper()
	m.d.Room(1 << 20)
	crash := func() {
		m.d.Crash([]api.Fate{{Keep: m.c.below(3) * m.c.below(100), At: m.c.below(40), Turn: byte(m.c.below(2) * m.c.below(256))}, {Keep: m.c.below(500)}})
	}
	if m.d.Down() || m.c.below(2) == 0 {
		crash()
	}
	for range m.c.below(3) {
		m.d.Fuse(m.c.below(20))
		store.Open(m.d, m.c.options())
		crash()
	}
	m.d.Fuse(-1)
	m.d.Fault(-1)
	m.open()
	if e == api.OK {
		under = nil
	}
	ahead := m.p.seq()
	m.p = either(m.t, what+", opened anew", m.s, m.p, under)
	if len(under) > 0 {
		kept[min(1, m.p.seq()-ahead)]++
	}
	sound(m.t, what+", opened anew", m.d, m.s)
}

// TestSameByOptions: P17.5, what is seen is the same, by whichever options, whatever is flushed and put together.
func TestSameByOptions(t *testing.T) {
	c := dice(99)
	var l [][]api.Change
	for range 80 {
		l = append(l, c.changes(6))
	}
	for range 60 {
		o := c.options()
		d := fresh(t)
		s := opened(t, d, o)
		p := past{}
		snaps := map[int]past{}
		for i, changes := range l {
			done(t, s.Write(changes...))
			p = p.with(changes...)
			if i%17 == 0 {
				snaps[s.Snap()] = p
			}
			if c.below(4) == 0 {
				s.Flush()
			}
			if c.below(3) == 0 {
				s.Compact(c.below(3), c.below(5))
			}
		}
		what := fmt.Sprintf("%+v", o)
		holds(t, what, s, p)
		sound(t, what, d, s)
		for h, then := range snaps {
			at, _ := s.At(h)
			want(t, what+": At", at, then.seq())
			sees(t, what, s, p, at)
			list(t, what+": a snapshot", slices.Collect(s.Range("", "", at)), then.seen(at)...)
		}
	}
}
