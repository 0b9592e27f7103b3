package store_test

import (
	"fmt"
	"slices"
	"testing"

	"bourse/api"
	"bourse/disk"
	"bourse/edit"
	"bourse/manifest"
	"bourse/store"
	"bourse/table"
)

// flushes: a Flush that is OK, and all that it has to do.
func flushes(t *testing.T, what string, d *disk.Disk, s *store.Store, p past) {
	t.Helper()
	_, before, _ := manifest.Load(d)
	l := logged(t, d, before.Log)
	steps := d.Steps()
	want(t, what+": Flush", s.Flush(), api.OK)
	want(t, what+": steps", d.Steps()-steps, 3+1+2+1)
	flushed(t, what, d, s, before, l)
	holds(t, what, s, p)
	want(t, what+": Flush again", s.Flush(), api.ErrNone)
	want(t, what+": steps again", d.Steps()-steps, 7)
}

// flushed: what a Flush leaves: entries stand in a table of level 0, the log and the memo are empty.
func flushed(t *testing.T, what string, d *disk.Disk, s *store.Store, before manifest.State, l []api.Entry) {
	t.Helper()
	after := sound(t, what, d, s)
	data, e := table.Build(l, s.Options().Block)
	want(t, what+": Build", e, api.OK)
	f := edit.File{Number: before.Next, Size: uint64(len(data)), Count: uint64(len(l)), Least: l[0].Key, Most: l[len(l)-1].Key}
	wanted, e := before.Then(edit.Edit{Log: before.Next + 1, Next: before.Next + 2, Seq: s.Seq(), Come: []edit.At{{Level: 0, File: f}}})
	want(t, what+": Then", e, api.OK)
	same(t, what, after, wanted)
	want(t, what+": the table", read(t, d, edit.Name("t", before.Next)), data)
	want(t, what+": the log", read(t, d, edit.Name("l", after.Log)), "")
	want(t, what+": Memo", s.Memo(), 0)
}

// same: as want, of states.
func same(t *testing.T, what string, got, wanted manifest.State) {
	t.Helper()
	want(t, what+": the state", fmt.Sprint(got), fmt.Sprint(wanted))
}

// needed: of entries in a memo's order those that must stay: of each key the newest one, and those that are seen at a number; without a Delete that is the oldest of these, at the bottom.
func needed(l []api.Entry, numbers []uint64, bottom bool) []api.Entry {
	var all []api.Entry
	for len(l) > 0 {
		n := 1
		for n < len(l) && l[n].Key == l[0].Key {
			n++
		}
		kept := map[int]bool{0: true}
		for _, at := range numbers {
			if i := slices.IndexFunc(l[:n], func(e api.Entry) bool { return e.Seq <= at }); i >= 0 {
				kept[i] = true
			}
		}
		var some []api.Entry
		for i, e := range l[:n] {
			if kept[i] {
				some = append(some, e)
			}
		}
		if last := len(some) - 1; bottom && some[last].Kind == api.Delete {
			some = some[:last]
		}
		all, l = append(all, some...), l[n:]
	}
	return all
}

// parted: entries as tables have them: key by key, till they have so many bytes, and a 32nd part of all.
func parted(l []api.Entry, size int) [][]api.Entry {
	bytes := func(l []api.Entry) int {
		n := 0
		for _, e := range l {
			n += len(e.Key) + len(e.Value)
		}
		return n
	}
	all := bytes(l)
	var parts [][]api.Entry
	var part []api.Entry
	for len(l) > 0 {
		n := 1
		for n < len(l) && l[n].Key == l[0].Key {
			n++
		}
		part, l = append(part, l[:n]...), l[n:]
		if b := bytes(part); b >= size && float64(b) >= float64(all)/32 {
			parts, part = append(parts, part), nil
		}
	}
	if part != nil {
		parts = append(parts, part)
	}
	return parts
}

// compacts: a Compact that is OK, and all that it has to do; ErrNone, where there is nothing to do.
func compacts(t *testing.T, what string, d *disk.Disk, s *store.Store, p past, level, choice int, snaps ...uint64) {
	t.Helper()
	_, before, _ := manifest.Load(d)
	memo, steps := s.Memo(), d.Steps()
	pick, ok := before.Version.Pick(level, choice)
	if !ok {
		want(t, what+": Compact", s.Compact(level, choice), api.ErrNone)
		want(t, what+": steps", d.Steps(), steps)
		return
	}
	picked := append(slices.Clone(pick.Upper), pick.Lower...)
	least, most := picked[0].Least, picked[0].Most
	var l []api.Entry
	for _, f := range picked {
		least, most = min(least, f.Least), max(most, f.Most)
		l = append(l, entries(t, d, f.Number)...)
	}
	slices.SortFunc(l, compare)
	parts := parted(needed(l, snaps, before.Version.Bottom(level+1, least, most)), s.Options().Table)

	want(t, what+": Compact", s.Compact(level, choice), api.OK)
	e := edit.Edit{Next: before.Next + uint64(len(parts))}
	for i, part := range parts {
		data, err := table.Build(part, s.Options().Block)
		want(t, what+": Build", err, api.OK)
		f := edit.File{Number: before.Next + uint64(i), Size: uint64(len(data)), Count: uint64(len(part)), Least: part[0].Key, Most: part[len(part)-1].Key}
		e.Come = append(e.Come, edit.At{Level: level + 1, File: f})
		want(t, what+": a table", read(t, d, edit.Name("t", f.Number)), data)
	}
	for i, f := range picked {
		g := edit.Gone{Level: level, Number: f.Number}
		if i >= len(pick.Upper) {
			g.Level++
		}
		e.Go = append(e.Go, g)
	}
	wanted, err := before.Then(e)
	want(t, what+": Then", err, api.OK)
	same(t, what, sound(t, what, d, s), wanted)
	want(t, what+": Memo", s.Memo(), memo)
	want(t, what+": steps", d.Steps()-steps, 3*len(parts)+2+len(picked))
	want(t, what+": at most 32 parts", len(parts) <= 32, true)
	holds(t, what, s, p)
	for _, at := range snaps {
		sees(t, what, s, p, at)
	}
}

// compare: by keys, then the newest first.
func compare(a, b api.Entry) int {
	switch {
	case a.Key < b.Key || a.Key == b.Key && a.Seq > b.Seq:
		return -1
	case a.Key == b.Key && a.Seq == b.Seq:
		return 0
	}
	return 1
}

// TestFlush: P17.3, by hand: the memo becomes a table of level 0, a new log is begun, the old one is deleted.
func TestFlush(t *testing.T) {
	for _, block := range []int{-1, 0, 40, 4096} {
		d := fresh(t)
		s := opened(t, d, store.Options{Block: block})
		want(t, "nothing", s.Flush(), api.ErrNone)
		p := past{}
		for _, l := range [][]api.Change{
			{put("b", "1")},
			{put("a", "2"), del("b"), put("c", "3"), put("a", "4")},
			{del("a"), del("a"), del("a")},
			{put(x(85), x(4096)), put("b", "")},
		} {
			done(t, s.Write(l...))
			p = p.with(l...)
			flushes(t, fmt.Sprint("blocks of ", block), d, s, p)
		}
		want(t, "tables", len(s.Version().Levels[0]), 4)
		holds(t, "opened anew", opened(t, d, store.Options{}), p)
	}
}

// TestCompact: P17.3, by hand: what Pick picks is put together on the next level.
func TestCompact(t *testing.T) {
	d := fresh(t)
	s := opened(t, d, store.Options{Table: 4})
	p := past{}
	for level := -2; level < 6; level++ {
		compacts(t, "nothing", d, s, p, level, 0)
	}
	flush := func(l ...api.Change) {
		t.Helper()
		done(t, s.Write(l...))
		p = p.with(l...)
		flushes(t, "ahead", d, s, p)
	}
	counts := func(what string, wanted ...int) {
		t.Helper()
		v := s.Version()
		for level, n := range wanted {
			want(t, fmt.Sprint(what, ": files of the level ", level), len(v.Levels[level]), n)
		}
	}
	flush(put("a", "1"), put("b", "2"), put("c", "3"))
	flush(put("d", "4"), put("e", "5"))
	flush(del("b"), put("c", "6"))
	counts("ahead", 3, 0, 0, 0)
	compacts(t, "c and b with a to c", d, s, p, 0, 0)
	counts("c and b with a to c", 1, 1, 0, 0)
	f := s.Version().Levels[1][0]
	list(t, "the Delete is dropped", entries(t, d, f.Number), api.Entry{Key: "a", Seq: 1, Kind: api.Put, Value: "1"}, api.Entry{Key: "c", Seq: 7, Kind: api.Put, Value: "6"})
	done(t, s.Write(put("x", "in the memo")))
	p = p.with(put("x", "in the memo"))
	compacts(t, "d and e", d, s, p, 0, -1)
	counts("d and e", 0, 2, 0, 0)
	compacts(t, "the second one", d, s, p, 1, 1)
	counts("the second one", 0, 1, 1, 0)
	flush(del("e"), put("f", "7"))
	compacts(t, "a Delete above what it deletes", d, s, p, 0, 0)
	counts("a Delete above what it deletes", 0, 2, 1, 0)
	f = s.Version().Levels[1][1]
	want(t, "it stays", entries(t, d, f.Number)[0].Kind, api.Delete)
	compacts(t, "both", d, s, p, 1, 1)
	counts("both", 0, 1, 2, 0)
	compacts(t, "to the last level", d, s, p, 2, 0)
	compacts(t, "to the last level", d, s, p, 2, 0)
	counts("to the last level", 0, 1, 0, 2)
	for level := -2; level < 6; level++ {
		if level != 1 {
			compacts(t, "nothing there", d, s, p, level, 3)
		}
	}
	holds(t, "opened anew", opened(t, d, store.Options{}), p)
}

// TestCompactAway: P17.3, where nothing is needed any more, no table comes.
func TestCompactAway(t *testing.T) {
	d := fresh(t)
	s := opened(t, d, store.Options{})
	p := past{}.with(put("a", "1"), put("b", "2"), del("a"), del("b"))
	done(t, s.Write(p.changes()...), s.Flush())
	compacts(t, "all Deletes", d, s, p, 0, 0)
	want(t, "files", s.Version().Count(), 0)
	want(t, "Seq", s.Seq(), 4)
	s = opened(t, d, store.Options{})
	holds(t, "opened anew", s, p)
	done(t, s.Write(put("a", "3")))
	holds(t, "one more", s, p.with(put("a", "3")))
	holds(t, "one more, opened anew", opened(t, d, store.Options{}), p.with(put("a", "3")))
}

// changes: by which it came.
func (p past) changes() []api.Change {
	var l []api.Change
	for _, e := range p {
		l = append(l, api.Change{Kind: e.Kind, Key: e.Key, Value: e.Value})
	}
	return l
}

// TestCompactBottom: P17.3, nothing may stand below all that was picked, if a Delete is to be dropped.
func TestCompactBottom(t *testing.T) {
	for _, old := range []string{"a", "c", "g", "b", "d", "f"} {
		for _, gone := range []string{"a", "c", "g"} {
			for below := 2; below < 4; below++ {
				d := fresh(t)
				s := opened(t, d, store.Options{Table: 1 << 20})
				p := past{}
				lay := func(level int, l ...api.Change) {
					done(t, s.Write(l...), s.Flush())
					p = p.with(l...)
					for i := range level {
						done(t, s.Compact(i, 0))
					}
				}
				what := fmt.Sprintf("%s below, on the level %d, %s goes", old, below, gone)
				lay(below, put(old, "old"))
				lay(1, slices.Concat([]api.Change{put("a", "1"), put("c", "1"), put("g", "1")}, []api.Change{del(gone)})...)
				lay(0, put("c", "2"))
				compacts(t, what, d, s, p, 0, 0)
				want(t, what+": files", s.Version().Count(), 2)
				f := s.Version().Levels[1][0]
				want(t, what+": entries", f.Count, 3)
				compacts(t, what+", one deeper", d, s, p, 1, 0)
			}
		}
	}
}

// TestCompactBounds: P17.3, the bounds are those of all that was picked, above and below.
func TestCompactBounds(t *testing.T) {
	for _, upper := range [][]api.Change{{put("d", "2")}, {put("a", "2"), put("d", "2")}, {put("d", "2"), put("i", "2")}, {del("b"), put("h", "2")}} {
		for _, old := range []string{"a", "b", "c", "d", "e", "g", "h", "i"} {
			d := fresh(t)
			s := opened(t, d, store.Options{Table: 1 << 20})
			p := past{}
			lay := func(level int, l ...api.Change) {
				done(t, s.Write(l...), s.Flush())
				p = p.with(l...)
				for i := range level {
					done(t, s.Compact(i, 0))
				}
			}
			lay(3, put(old, "old"))
			lay(1, del("c"), put("d", "1"), del("e"))
			lay(1, put("g", "1"), del("h"))
			lay(0, upper...)
			compacts(t, fmt.Sprintf("%s below, above %v", old, upper), d, s, p, 0, 0)
		}
	}
}

// TestCompactKeepsTheLog: P17.3, what the memo has isn't told by a Compact: behind a crash it comes from the log.
func TestCompactKeepsTheLog(t *testing.T) {
	d := fresh(t)
	s := opened(t, d, store.Options{})
	p := past{}.with(put("a", "1"), put("a", "2"), del("a"), put("b", "3"))
	done(t, s.Write(p.changes()[:2]...), s.Flush(), s.Write(p.changes()[2:]...))
	compacts(t, "beside a memo", d, s, p, 0, 0)
	want(t, "what is told", sound(t, "beside a memo", d, s).Seq, 2)
	d.Crash(nil)
	holds(t, "behind a crash", opened(t, d, store.Options{}), p)
}

// TestCompactSnapshots: P17.3, the numbers of all snapshots stay; of those that are closed not.
func TestCompactSnapshots(t *testing.T) {
	for mask := range 1 << 6 {
		d := fresh(t)
		s := opened(t, d, store.Options{})
		p := past{}
		var snaps []uint64
		var handles []int
		for i, c := range []api.Change{put("a", "1"), put("b", "2"), del("a"), put("a", "4"), del("b"), del("a")} {
			done(t, s.Write(c))
			p = p.with(c)
			h := s.Snap()
			if mask>>i&1 == 1 {
				snaps = append(snaps, p.seq())
				handles = append(handles, h)
			} else {
				done(t, s.Close(h))
			}
		}
		done(t, s.Flush())
		what := fmt.Sprint("snapshots at ", snaps)
		compacts(t, what, d, s, p, 0, 0, snaps...)
		compacts(t, what+", once more", d, s, p, 1, 0, snaps...)
		for _, h := range handles {
			done(t, s.Close(h))
		}
		for s.Version().Count() > 0 {
			compacts(t, what+", closed", d, s, p, 2, 0)
			if len(s.Version().Levels[2]) == 0 {
				break
			}
		}
		n := 0
		for _, f := range s.Version().Levels[3] {
			n += int(f.Count)
		}
		want(t, what+", closed: entries", n, 0)
	}
}

// TestCompactTables: P17.3, a table ends behind a key with which it has as many bytes as the option tells, or a 32nd part of all, if that is more.
func TestCompactTables(t *testing.T) {
	for _, c := range []struct {
		keys, value, table int
		wanted             []int // entries of each table
	}{
		{10, 1, 1, slices.Repeat([]int{1}, 10)},
		{10, 1, 4, slices.Repeat([]int{1}, 10)},
		{10, 1, 5, []int{2, 2, 2, 2, 2}},
		{10, 1, 8, []int{2, 2, 2, 2, 2}},
		{10, 1, 9, []int{3, 3, 3, 1}},
		{10, 1, 36, []int{9, 1}},
		{10, 1, 37, []int{10}},
		{10, 1, 40, []int{10}},
		{10, 1, 1 << 40, []int{10}},
		{32, 1, 0, slices.Repeat([]int{1}, 32)},
		{33, 1, 0, append(slices.Repeat([]int{2}, 16), 1)},
		{64, 1, 0, slices.Repeat([]int{2}, 32)},
		{64, 1, -1 << 62, slices.Repeat([]int{2}, 32)},
		{64, 1, 8, slices.Repeat([]int{2}, 32)},
		{64, 1, 9, append(slices.Repeat([]int{3}, 21), 1)},
		{100, 1, 1, slices.Repeat([]int{4}, 25)},
		{65, 97, 150, append(slices.Repeat([]int{3}, 21), 2)},
	} {
		d := fresh(t)
		s := opened(t, d, store.Options{Table: c.table})
		p := past{}
		for i := range c.keys {
			p = p.with(put(fmt.Sprintf("%03d", i), x(c.value)))
		}
		done(t, s.Write(p.changes()...), s.Flush())
		what := fmt.Sprintf("%d keys, values of %d, tables of %d", c.keys, c.value, c.table)
		compacts(t, what, d, s, p, 0, 0)
		var counts []int
		for _, f := range s.Version().Levels[1] {
			counts = append(counts, int(f.Count))
		}
		list(t, what, counts, c.wanted...)
	}

	// All entries of a key stand in one table, and count; those that were dropped don't.
	d := fresh(t)
	s := opened(t, d, store.Options{Table: 6})
	p := past{}
	var snaps []uint64
	for i := range 8 {
		l := []api.Change{put("b", fmt.Sprint(i)), put("c", "old"), put("a", fmt.Sprint(i)), put("d", "9")}
		done(t, s.Write(l...))
		p = p.with(l...)
		if i%2 == 0 {
			snaps = append(snaps, p.seq())
			s.Snap()
		}
		done(t, s.Flush())
	}
	compacts(t, "many of a key", d, s, p, 0, 0, snaps...)
	v := s.Version()
	want(t, "tables", len(v.Levels[1]), 4)
	for _, f := range v.Levels[1] {
		want(t, "entries of a key", f.Count, 5)
		want(t, "a key", f.Least, f.Most)
	}
}

// begun: a store with tables on all levels, a memo and snapshots.
func begun(t *testing.T, o store.Options) (*disk.Disk, *store.Store, past) {
	t.Helper()
	d := fresh(t)
	s := opened(t, d, o)
	p := past{}
	write := func(l ...api.Change) {
		done(t, s.Write(l...))
		p = p.with(l...)
	}
	for i, l := range [][]api.Change{
		{put("a", "1"), put("b", "1"), put("c", "1"), put("d", "1")},
		{put("b", "2"), put("d", "2"), put("e", "2")},
		{del("a"), put("c", "3"), put("f", "3")},
		{put("a", "4"), del("c"), put("g", "4")},
	} {
		write(l...)
		done(t, s.Flush())
		for level := range 3 - i {
			for len(s.Version().Levels[level]) > 0 {
				done(t, s.Compact(level, 0))
			}
		}
	}
	write(put("a", "5"), put("e", "5"))
	done(t, s.Flush())
	write(del("d"), put("h", "6"))
	v := s.Version()
	for level := range v.Levels {
		want(t, fmt.Sprint("files of the level ", level), len(v.Levels[level]) > 0, true)
	}
	return d, s, p
}

// TestFlushAndCompactErrors: P17.3, an error of the disk at each step of either: it is closed to changes; what is seen stays.
func TestFlushAndCompactErrors(t *testing.T) {
	o := store.Options{Block: 60, Table: 4}
	for what, do := range map[string]func(s *store.Store) api.Errno{
		"Flush":         func(s *store.Store) api.Errno { return s.Flush() },
		"Compact(0, 0)": func(s *store.Store) api.Errno { return s.Compact(0, 0) },
		"Compact(1, 0)": func(s *store.Store) api.Errno { return s.Compact(1, 0) },
		"Compact(2, 0)": func(s *store.Store) api.Errno { return s.Compact(2, 0) },
	} {
		for _, wanted := range []api.Errno{api.ErrIO, api.ErrPower} {
			steps := 0
			for ; ; steps++ {
				d, s, p := begun(t, o)
				n := s.Snap()
				before := d.Steps()
				if wanted == api.ErrIO {
					d.Fault(steps)
				} else {
					d.Fuse(steps)
				}
				what := fmt.Sprintf("%s, %v at the step %d", what, wanted, steps)
				if e := do(s); e == api.OK {
					want(t, what+": it had all its steps", d.Steps()-before, steps)
					d.Fault(-1)
					d.Fuse(-1)
					sound(t, what, d, s)
					break
				} else {
					want(t, what, e, wanted)
				}
				want(t, what+": steps", d.Steps()-before, steps)
				at, e := s.At(n)
				want(t, what+": the snapshot", at == p.seq() && e == api.OK, true)
				shut(t, what, d, s, p)
				want(t, what+": its version", s.Version().Right(), true)
				if wanted == api.ErrPower {
					d.Crash(nil)
				}
				z := opened(t, d, o)
				holds(t, what+", opened anew", z, p)
				sound(t, what+", opened anew", d, z)
			}
			want(t, what+": steps", steps >= 6, true)
		}
	}
}

// TestFlushAndCompactWithoutRoom: P17.3, a disk that is full, in the midst of either; opened anew all is there, without more room where it needs none.
func TestFlushAndCompactWithoutRoom(t *testing.T) {
	o := store.Options{Block: 60, Table: 4}
	for what, do := range map[string]func(s *store.Store) api.Errno{
		"Flush":   func(s *store.Store) api.Errno { return s.Flush() },
		"Compact": func(s *store.Store) api.Errno { return s.Compact(0, 0) },
	} {
		failed := 0
		for room := 0; ; room += 7 {
			d, s, p := begun(t, o)
			d.Room(d.Used() + room)
			what := fmt.Sprintf("%s with room for %d", what, room)
			e := do(s)
			if e == api.OK {
				sound(t, what, d, s)
				break
			}
			failed++
			want(t, what, e, api.ErrFull)
			shut(t, what, d, s, p)
			for range 5 {
				if _, e := store.Open(d, o); e != api.OK {
					want(t, what+": Open", e, api.ErrFull)
				}
			}
			d.Room(1 << 20)
			z := opened(t, d, o)
			holds(t, what+", opened anew", z, p)
			sound(t, what+", opened anew", d, z)
		}
		want(t, what+": it was full", failed > 10, true)
	}
}

// TestCompactLeavesNothing: what a Compact that failed left behind doesn't stand in the way of the next Open, though the disk is full of it.
func TestCompactLeavesNothing(t *testing.T) {
	d := fresh(t)
	s := opened(t, d, store.Options{Table: 10})
	p := past{}
	for i := range 100 {
		p = p.with(put(fmt.Sprintf("%03d", i), x(20)))
	}
	done(t, s.Write(p.changes()...), s.Flush())
	others := api.MaxFiles - len(d.List()) - 8
	for i := range others {
		done(t, d.Create(fmt.Sprint("other-", i)))
	}
	want(t, "too many files", s.Compact(0, 0), api.ErrMany)
	want(t, "files", len(d.List()), api.MaxFiles)
	shut(t, "too many files", d, s, p)
	s = opened(t, d, store.Options{})
	holds(t, "too many files, opened anew", s, p)
	want(t, "files of its own and others", len(d.List()), len(s.Files())+1+others)

	d.Room(d.Used() + 2500)
	s = opened(t, d, store.Options{Table: 1 << 10})
	want(t, "too many bytes", s.Compact(0, 0), api.ErrFull)
	want(t, "all room is taken", d.Used() > 4000, true)
	shut(t, "too many bytes", d, s, p)
	holds(t, "too many bytes, opened anew", opened(t, d, store.Options{}), p)
}
