package store

import (
	"iter"
	"slices"

	"bourse/api"
	"bourse/edit"
	"bourse/merge"
)

// holder is what has entries: a memo, a table.
type holder interface {
	From(key string) iter.Seq[api.Entry]
	Down(key string) iter.Seq[api.Entry]
}

// way is how entries are gone through.
type way struct {
	row  func(h holder) merge.Row
	back bool // from the last file of a level to the first
}

// Get: a value.
func (s *Store) Get(key string, at uint64) (string, bool) {
	if s == nil {
		return "", false
	}
	newest, some := s.memo.Get(key, at)
	for _, f := range s.version.For(key) {
		e, ok := s.tables[f.Number].Get(key, at)
		if ok && (!some || e.Seq > newest.Seq) {
			newest, some = e, true
		}
	}
	if newest.Kind != api.Put {
		return "", false
	}
	return newest.Value, true
}

// Range: pairs, rising.
func (s *Store) Range(from, to string, at uint64) iter.Seq[api.Pair] {
	w := way{row: func(h holder) merge.Row {
		return during(h.From(from), func(e api.Entry) bool { return isBelow(e.Key, to) })
	}}
	return func(yield func(api.Pair) bool) {
		merge.See(merge.Up(s.rows(from, to, w)...), at)(yield)
	}
}

// Down: pairs, falling.
func (s *Store) Down(from, to string, at uint64) iter.Seq[api.Pair] {
	w := way{back: true, row: func(h holder) merge.Row {
		return during(h.Down(to), func(e api.Entry) bool { return e.Key >= from })
	}}
	return func(yield func(api.Pair) bool) {
		// Rows begin with the upper bound itself, which isn't within.
		merge.Within(merge.SeeDown(merge.Down(s.rows(from, to, w)...), at), from, to)(yield)
	}
}

// rows: those of all that may have entries within bounds.
func (s *Store) rows(from, to string, w way) []merge.Row {
	if s == nil {
		return nil
	}
	l := []merge.Row{w.row(s.memo)}
	for level, files := range s.version.Levels {
		some := slices.DeleteFunc(slices.Clone(files), func(f edit.File) bool { return f.Most < from || !isBelow(f.Least, to) })
		if w.back {
			slices.Reverse(some)
		}
		if level > 0 {
			l = append(l, s.chain(some, w.row))
			continue
		}
		for _, f := range some {
			l = append(l, w.row(s.tables[f.Number]))
		}
	}
	return l
}

// chain: files that don't overlap as one row, in their order.
func (s *Store) chain(l []edit.File, row func(h holder) merge.Row) merge.Row {
	return func(yield func(api.Entry) bool) {
		for _, f := range l {
			for e := range row(s.tables[f.Number]) {
				if !yield(e) {
					return
				}
			}
		}
	}
}

// during: a row's entries up to the first one of which it doesn't hold.
func during(r merge.Row, holds func(api.Entry) bool) merge.Row {
	return func(yield func(api.Entry) bool) {
		for e := range r {
			if !holds(e) || !yield(e) {
				return
			}
		}
	}
}

// isBelow: is a key below the end of bounds?
func isBelow(key, to string) bool { return to == "" || key < to }
