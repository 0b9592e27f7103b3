package store

import (
	"slices"

	"bourse/api"
	"bourse/disk"
	"bourse/edit"
	"bourse/manifest"
	"bourse/memo"
	"bourse/table"
	"bourse/version"
	"bourse/wal"
)

// The kinds of files.
const (
	tables    = "t"
	logs      = "l"
	manifests = "m"
)

// Open: a store.
func Open(d *disk.Disk, o Options) (*Store, api.Errno) {
	name, state, err := manifest.Load(d)
	if err != api.OK && err != api.ErrNone {
		return nil, err
	}
	s := &Store{
		disk:    d,
		options: o.own(),
		memo:    memo.New(),
		tables:  map[uint64]*table.Table{},
		seq:     state.Seq,
		next:    max(state.Next, 1),
		found:   map[uint64]struct{}{},
		snaps:   map[int]uint64{},
	}
	if n, ok := edit.Number(manifests, name); ok {
		s.found[n] = struct{}{}
	}
	if err := s.read(state.Version); err != api.OK {
		return nil, err
	}
	told, err := s.replay(state.Log)
	if err != api.OK {
		return nil, err
	}
	if err := s.tidy(name); err != api.OK {
		return nil, err
	}
	if err := s.begin(state, told); err != api.OK {
		return nil, err
	}
	own := s.Files()
	if err := s.sweep(func(name string, _ uint64) bool { return slices.Contains(own, name) }); err != api.OK {
		return nil, err
	}
	return s, api.OK
}

// read: a version's tables.
func (s *Store) read(v version.Version) api.Errno {
	for _, n := range v.Numbers() {
		data, err := s.disk.Read(edit.Name(tables, n))
		if err == api.ErrNone {
			return api.ErrBroken
		}
		if err != api.OK {
			return err
		}
		t, err := table.Open(data)
		if err != api.OK {
			return api.ErrBroken
		}
		s.tables[n] = t
		s.found[n] = struct{}{}
	}
	return api.OK
}

// replay: the entries that the logs from one on tell, and that weren't told yet, in a memo's order.
func (s *Store) replay(first uint64) ([]api.Entry, api.Errno) {
	var told []api.Entry
	for _, n := range wal.Numbers(s.disk) {
		if n < first {
			continue
		}
		batches, err := wal.Load(s.disk, n)
		if err != api.OK {
			return nil, err
		}
		for _, b := range batches {
			s.found[n] = struct{}{}
			if b.Seq > s.seq && b.Seq-s.seq > 1 {
				return nil, api.ErrBroken
			}
			for e := range b.Entries() {
				if e.Seq > s.seq {
					told = append(told, e)
					s.seq = e.Seq
				}
			}
		}
	}
	// A memo has a bound of keys' lengths and of how many they are; logs needn't keep to it.
	slices.SortFunc(told, memo.Compare)
	return told, api.OK
}

// begin: a table of what the logs told, a log, and a manifest, which then counts.
func (s *Store) begin(state manifest.State, told []api.Entry) api.Errno {
	if len(told) > 0 {
		at, err := s.lay(0, told)
		if err != api.OK {
			return err
		}
		if state, err = state.Then(edit.Edit{Come: []edit.At{at}}); err != api.OK {
			return err
		}
	}
	log, number, err := s.logAnew()
	if err != api.OK {
		return err
	}
	n, err := s.number()
	if err != api.OK {
		return err
	}
	state.Log, state.Next, state.Seq = number, s.next, s.seq
	m, err := manifest.Create(s.disk, n, state)
	if err != api.OK {
		return err
	}
	s.log, s.manifest, s.version = log, m, m.State().Version
	return api.OK
}

// tidy: files that told nothing are gone; the name is that of the manifest that counts. A crash or an error left them behind, and they take the names and the room of those to come.
func (s *Store) tidy(name string) api.Errno {
	// Behind a crash a manifest might tell less, and so need others than it does now: what it tells has to last first.
	if s.disk.Loose(name) > 0 {
		if err := s.disk.Sync(name); err != api.OK {
			return err
		}
	}
	return s.sweep(func(_ string, n uint64) bool {
		_, ok := s.found[n]
		return ok
	})
}

// sweep: files of its kinds are gone, but those that are kept.
func (s *Store) sweep(keeps func(name string, n uint64) bool) api.Errno {
	for _, name := range s.disk.List() {
		n, ok := numbered(name)
		if !ok || keeps(name, n) {
			continue
		}
		if err := s.disk.Delete(name); err != api.OK {
			return err
		}
	}
	return api.OK
}

// numbered: the number of a file of a store's kinds.
func numbered(name string) (uint64, bool) {
	for _, kind := range []string{tables, logs, manifests} {
		if n, ok := edit.Number(kind, name); ok {
			return n, true
		}
	}
	return 0, false
}
