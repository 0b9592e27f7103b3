package store_test

import (
	"fmt"
	"iter"
	"maps"
	"math"
	"slices"
	"strings"
	"testing"

	"bourse/api"
	"bourse/disk"
	"bourse/edit"
	"bourse/manifest"
	"bourse/memo"
	"bourse/store"
	"bourse/table"
	"bourse/version"
	"bourse/wal"
)

// want: a test fails, if something is another thing than was wanted.
func want[T comparable](t *testing.T, what string, got, wanted T) {
	t.Helper()
	if got != wanted {
		t.Errorf("%s: %v, wanted %v", what, got, wanted)
	}
}

// list: as want, of lists.
func list[T comparable](t *testing.T, what string, got []T, wanted ...T) {
	t.Helper()
	if !slices.Equal(got, wanted) {
		t.Errorf("%s: %v, wanted %v", what, got, wanted)
	}
}

// row: as want, of rows, which are gone through twice.
func row[T comparable](t *testing.T, what string, r iter.Seq[T], wanted ...T) {
	t.Helper()
	list(t, what, slices.Collect(r), wanted...)
	list(t, what+", again", slices.Collect(r), wanted...)
}

func x(n int) string { return strings.Repeat("x", n) }

func put(key, value string) api.Change {
	return api.Change{Kind: api.Put, Key: key, Value: value}
}

func del(key string) api.Change { return api.Change{Kind: api.Delete, Key: key} }

// done: none had an error.
func done(t *testing.T, l ...api.Errno) {
	t.Helper()
	for i, e := range l {
		if e != api.OK {
			t.Fatalf("the call of place %d: %v", i, e)
		}
	}
}

// fresh: an empty disk.
func fresh(t *testing.T) *disk.Disk {
	t.Helper()
	d, e := disk.New(1 << 24)
	want(t, "New", e, api.OK)
	return d
}

// opened: a store that could be opened.
func opened(t *testing.T, d *disk.Disk, o store.Options) *store.Store {
	t.Helper()
	s, e := store.Open(d, o)
	if e != api.OK || s == nil {
		t.Fatalf("Open: %v, files %v", e, d.List())
	}
	return s
}

// refuses: an error of Open, and no store beside it.
func refuses(t *testing.T, what string, d *disk.Disk, wanted api.Errno) {
	t.Helper()
	s, e := store.Open(d, store.Options{})
	want(t, what, e, wanted)
	want(t, what+": the store", s == nil, true)
}

// file: a file of these bytes, all of which last.
func file(t *testing.T, d *disk.Disk, name, data string) {
	t.Helper()
	if e := d.Delete(name); e != api.OK && e != api.ErrNone {
		t.Fatal(e)
	}
	done(t, d.Create(name), d.Append(name, data), d.Sync(name))
}

// read: a file's bytes, all of which last.
func read(t *testing.T, d *disk.Disk, name string) string {
	t.Helper()
	s, e := d.Read(name)
	want(t, name, e, api.OK)
	want(t, name+": loose", d.Loose(name), 0)
	return s
}

// past: all that was written, each with its number.
type past []api.Entry

// with: what is written behind it, too.
func (p past) with(l ...api.Change) past {
	p = slices.Clone(p)
	for _, c := range l {
		p = append(p, api.Entry{Key: c.Key, Seq: p.seq() + 1, Kind: c.Kind, Value: c.Value})
	}
	return p
}

func (p past) seq() uint64 { return uint64(len(p)) }

// seen: the pairs at a number, rising.
func (p past) seen(at uint64) []api.Pair {
	values := map[string]string{}
	for _, e := range p[:min(at, p.seq())] {
		if e.Kind == api.Put {
			values[e.Key] = e.Value
		} else {
			delete(values, e.Key)
		}
	}
	var l []api.Pair
	for _, k := range slices.Sorted(maps.Keys(values)) {
		l = append(l, api.Pair{Key: k, Value: values[k]})
	}
	return l
}

// within: pairs within bounds.
func within(l []api.Pair, from, to string) []api.Pair {
	var some []api.Pair
	for _, p := range l {
		if !(p.Key < from) && (to == "" || p.Key < to) {
			some = append(some, p)
		}
	}
	return some
}

// turned: the other way round.
func turned[T any](l []T) []T {
	l = slices.Clone(l)
	slices.Reverse(l)
	return l
}

// sees: what a store sees at a number, by all of its calls.
func sees(t *testing.T, what string, s *store.Store, p past, at uint64) {
	t.Helper()
	what = fmt.Sprint(what, ": seen at ", at)
	wanted := p.seen(at)
	list(t, what, slices.Collect(s.Range("", "", at)), wanted...)
	list(t, what+", falling", slices.Collect(s.Down("", "", at)), turned(wanted)...)
	there := map[string]string{}
	for _, w := range wanted {
		there[w.Key] = w.Value
	}
	keys := map[string]struct{}{"": {}, "\x00": {}, "nobody": {}, "\xff": {}}
	for _, e := range p {
		keys[e.Key] = struct{}{}
	}
	for k := range keys {
		v, ok := s.Get(k, at)
		w, is := there[k]
		want(t, fmt.Sprintf("%s: Get(%q)", what, k), v, w)
		want(t, fmt.Sprintf("%s: is there %q", what, k), ok, is)
	}
}

// holds: a store has what was written, and tells so.
func holds(t *testing.T, what string, s *store.Store, p past) {
	t.Helper()
	want(t, what+": Seq", s.Seq(), p.seq())
	sees(t, what, s, p, p.seq())
	sees(t, what, s, p, math.MaxUint64)
}

// entries: those of a table's file.
func entries(t *testing.T, d *disk.Disk, number uint64) []api.Entry {
	t.Helper()
	u, e := table.Open(read(t, d, edit.Name("t", number)))
	if e != api.OK {
		t.Fatalf("t-%d: %v", number, e)
	}
	return slices.Collect(u.All())
}

// logged: the entries of a log's file, in a memo's order.
func logged(t *testing.T, d *disk.Disk, number uint64) []api.Entry {
	t.Helper()
	var l []api.Entry
	batches, e := wal.Load(d, number)
	want(t, "the log", e, api.OK)
	for _, b := range batches {
		l = slices.AppendSeq(l, b.Entries())
	}
	slices.SortFunc(l, memo.Compare)
	return l
}

// sound: the disk has just what an open store that had no error tells, all of which lasts; and the manifest tells it.
func sound(t *testing.T, what string, d *disk.Disk, s *store.Store) manifest.State {
	t.Helper()
	name, state, e := manifest.Load(d)
	want(t, what+": Load", e, api.OK)
	v := s.Version()
	want(t, what+": the version", version.Same(state.Version, v) && v.Right(), true)
	wanted := []string{name, edit.Name("l", state.Log)}
	for _, l := range v.Levels {
		for _, f := range l {
			wanted = append(wanted, edit.Name("t", f.Number))
			data := read(t, d, edit.Name("t", f.Number))
			u, e := table.Open(data)
			if e != api.OK {
				t.Fatalf("%s: t-%d: %v", what, f.Number, e)
			}
			least, most := u.Bounds()
			want(t, what+": a file", f, edit.File{Number: f.Number, Size: uint64(len(data)), Count: uint64(u.Len()), Least: least, Most: most})
			want(t, what+": below the next number", f.Number < state.Next, true)
		}
	}
	slices.Sort(wanted)
	list(t, what+": Files", s.Files(), wanted...)
	list(t, what+": the disk's", d.List(), slices.Sorted(slices.Values(append(wanted, "current")))...)
	for _, name := range d.List() {
		want(t, what+": loose of "+name, d.Loose(name), 0)
	}
	n := 0
	l := logged(t, d, state.Log)
	for _, e := range l {
		n += len(e.Key) + len(e.Value) + 8
	}
	want(t, what+": Memo", s.Memo(), n)
	want(t, what+": told", state.Seq+uint64(len(l)), s.Seq())
	want(t, what+": ReadOnly", s.ReadOnly(), false)
	return state
}

// shut: a store is closed to changes: all are refused, whatever they are, and none does anything; what is seen stays.
func shut(t *testing.T, what string, d *disk.Disk, s *store.Store, p past) {
	t.Helper()
	steps, files, size := d.Steps(), s.Files(), s.Memo()
	v := s.Version()
	want(t, what+": ReadOnly", s.ReadOnly(), true)
	want(t, what+": Write", s.Write(put("a", "1")), api.ErrReadOnly)
	want(t, what+": Write of nothing", s.Write(), api.ErrReadOnly)
	want(t, what+": Write of what is refused", s.Write(put("", ""), put(x(86), "")), api.ErrReadOnly)
	want(t, what+": Flush", s.Flush(), api.ErrReadOnly)
	for level := -1; level <= api.Levels; level++ {
		want(t, what+": Compact", s.Compact(level, 0), api.ErrReadOnly)
	}
	want(t, what+": steps", d.Steps(), steps)
	list(t, what+": Files", s.Files(), files...)
	want(t, what+": Version", version.Same(s.Version(), v), true)
	want(t, what+": Memo", s.Memo(), size)
	holds(t, what, s, p)
	n := s.Snap()
	at, e := s.At(n)
	want(t, what+": At", at == p.seq() && e == api.OK, true)
	want(t, what+": Close", s.Close(n), api.OK)
}

// dice: numbers that look like chance, the same each time.
type dice uint64

func (d *dice) below(n int) int {
	*d = *d*6364136223846793005 + 1442695040888963407
	return int(uint64(*d>>33) % uint64(n))
}

// key: one of a few, some of which begin others.
func (d *dice) key() string { return x(1 + d.below(3))[1:] + string(rune('a'+d.below(7))) }

// changes: up to so many.
func (d *dice) changes(most int) []api.Change {
	var l []api.Change
	for range 1 + d.below(most) {
		if d.below(3) == 0 {
			l = append(l, del(d.key()))
			continue
		}
		l = append(l, put(d.key(), fmt.Sprint(d.below(1000))))
	}
	return l
}

// options: some.
func (d *dice) options() store.Options {
	o := store.Options{Memo: d.below(3) * (d.below(200) - 1), Block: d.below(150) - 10, Table: d.below(80) - 10}
	for range d.below(4) {
		o.Heights = append(o.Heights, d.below(16)-2)
	}
	return o
}
