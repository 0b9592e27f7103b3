package store

import (
	"maps"
	"math"
	"slices"

	"bourse/api"
	"bourse/edit"
	"bourse/memo"
	"bourse/merge"
	"bourse/table"
	"bourse/version"
	"bourse/wal"
)

// share: which part of all that is put together a table has at least.
const share = 32

// Flush: the memo becomes a table.
func (s *Store) Flush() api.Errno {
	if err := s.refused(); err != api.OK {
		return err
	}
	if s.memo.Len() == 0 {
		return api.ErrNone
	}
	return s.ended(s.flush())
}

// Compact: files of two levels are put together.
func (s *Store) Compact(level, choice int) api.Errno {
	if err := s.refused(); err != api.OK {
		return err
	}
	p, ok := s.version.Pick(level, choice)
	if !ok {
		return api.ErrNone
	}
	return s.ended(s.together(p))
}

// flush: Flush's steps.
func (s *Store) flush() api.Errno {
	at, err := s.lay(0, slices.Collect(s.memo.All()))
	if err != api.OK {
		return err
	}
	log, number, err := s.logAnew()
	if err != api.OK {
		return err
	}
	if err := s.tell(edit.Edit{Log: number, Next: s.next, Seq: s.seq, Come: []edit.At{at}}); err != api.OK {
		return err
	}
	old := s.log.Name()
	s.log, s.memo = log, memo.New()
	return s.disk.Delete(old)
}

// together: Compact's steps.
func (s *Store) together(p version.Pick) api.Errno {
	// The last change's number isn't told: the log has changes up to it that no table has yet.
	var e edit.Edit
	for _, l := range s.parts(s.kept(p)) {
		at, err := s.lay(p.Level+1, l)
		if err != api.OK {
			return err
		}
		e.Come = append(e.Come, at)
	}
	e.Next, e.Go = s.next, append(gone(p.Level, p.Upper), gone(p.Level+1, p.Lower)...)
	if err := s.tell(e); err != api.OK {
		return err
	}
	for _, g := range e.Go {
		delete(s.tables, g.Number)
	}
	for _, g := range e.Go {
		if err := s.disk.Delete(edit.Name(tables, g.Number)); err != api.OK {
			return err
		}
	}
	return api.OK
}

// kept: the entries of what was picked that are needed yet.
func (s *Store) kept(p version.Pick) []api.Entry {
	var rows []merge.Row
	for _, f := range p.Upper {
		rows = append(rows, s.tables[f.Number].All())
	}
	rows = append(rows, s.chain(p.Lower, func(h holder) merge.Row { return h.From("") }))
	least, most := bounds(append(p.Upper, p.Lower...))
	seen := slices.Sorted(maps.Values(s.snaps))
	return slices.Collect(merge.Drop(merge.Up(rows...), seen, s.version.Bottom(p.Level+1, least, most)))
}

// parts: those of rising entries that become a table each.
func (s *Store) parts(l []api.Entry) [][]api.Entry {
	all := 0
	for _, e := range l {
		all += weight(e)
	}
	var parts [][]api.Entry
	from, n := 0, 0
	for i, e := range l {
		n += weight(e)
		if i+1 < len(l) && (l[i+1].Key == e.Key || n < s.options.Table || n*share < all) {
			continue
		}
		parts = append(parts, l[from:i+1])
		from, n = i+1, 0
	}
	return parts
}

// lay: a table of entries, in a file that comes to a level.
func (s *Store) lay(level int, l []api.Entry) (edit.At, api.Errno) {
	data, err := table.Build(l, s.options.Block)
	if err != api.OK {
		return edit.At{}, err
	}
	t, err := table.Open(data)
	if err != api.OK {
		return edit.At{}, err
	}
	n, err := s.number()
	if err != api.OK {
		return edit.At{}, err
	}
	if err := s.file(edit.Name(tables, n), data); err != api.OK {
		return edit.At{}, err
	}
	s.tables[n] = t
	least, most := t.Bounds()
	f := edit.File{Number: n, Size: uint64(len(data)), Count: uint64(len(l)), Least: least, Most: most}
	return edit.At{Level: level, File: f}, api.OK
}

// file: one of these bytes, all of which last.
func (s *Store) file(name, data string) api.Errno {
	if err := s.disk.Create(name); err != api.OK {
		return err
	}
	if err := s.disk.Append(name, data); err != api.OK {
		return err
	}
	return s.disk.Sync(name)
}

// logAnew: a new log, and its number.
func (s *Store) logAnew() (*wal.Log, uint64, api.Errno) {
	n, err := s.number()
	if err != api.OK {
		return nil, 0, err
	}
	log, err := wal.Create(s.disk, n)
	return log, n, err
}

// number: that of a file to come.
func (s *Store) number() (uint64, api.Errno) {
	for s.next < math.MaxUint64 {
		n := s.next
		s.next++
		if _, ok := s.found[n]; !ok {
			return n, api.OK
		}
	}
	return 0, api.ErrRange
}

// tell: the manifest tells an edit.
func (s *Store) tell(e edit.Edit) api.Errno {
	if err := s.manifest.Add(e); err != api.OK {
		return err
	}
	s.version = s.manifest.State().Version
	return api.OK
}

// gone: files that go from a level.
func gone(level int, l []edit.File) []edit.Gone {
	var all []edit.Gone
	for _, f := range l {
		all = append(all, edit.Gone{Level: level, Number: f.Number})
	}
	return all
}

// bounds: the least and the greatest key of files.
func bounds(l []edit.File) (least, most string) {
	least, most = l[0].Least, l[0].Most
	for _, f := range l {
		least, most = min(least, f.Least), max(most, f.Most)
	}
	return least, most
}

// weight: how many bytes an entry's key and value have.
func weight(e api.Entry) int { return len(e.Key) + len(e.Value) }
