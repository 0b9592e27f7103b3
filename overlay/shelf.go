package overlay

import (
	"cmp"
	"iter"
	"maps"
	"slices"
	"strings"

	"bourse/api"
)

// Shelf is pairs in memory.
type Shelf struct {
	pairs []api.Pair // by their keys; rows may be under way over them, so others take their place, and they stay as they are
}

// New: a shelf.
func New(l ...api.Pair) *Shelf {
	var puts []api.Change
	for _, p := range l {
		puts = append(puts, api.Change{Kind: api.Put, Key: p.Key, Value: p.Value})
	}
	s := &Shelf{}
	s.Do(puts)
	return s
}

// Get: a value.
func (s *Shelf) Get(key string) (string, bool) {
	if s == nil {
		return "", false
	}
	i, there := seek(s.pairs, pairKey, key)
	if !there {
		return "", false
	}
	return strings.Clone(s.pairs[i].Value), true
}

// Range: pairs, rising.
func (s *Shelf) Range(from, to string) iter.Seq[api.Pair] {
	return func(yield func(api.Pair) bool) {
		if s == nil {
			return
		}
		for _, p := range within(s.pairs, pairKey, from, to) {
			if !yield(api.Pair{Key: strings.Clone(p.Key), Value: strings.Clone(p.Value)}) {
				return
			}
		}
	}
}

// Do: behind changes.
func (s *Shelf) Do(l []api.Change) {
	if s == nil {
		return
	}
	s.pairs = slices.Collect(merged(slices.Values(s.pairs), settled(l)))
}

// Len: how many.
func (s *Shelf) Len() int {
	if s == nil {
		return 0
	}
	return len(s.pairs)
}

// settled: of each key the last change of the kinds that there are, rising.
func settled(l []api.Change) []*api.Change {
	last := map[string]*api.Change{}
	for _, c := range l {
		if c.Kind == api.Put || c.Kind == api.Delete {
			last[c.Key] = &c
		}
	}
	return slices.SortedFunc(maps.Values(last), func(a, b *api.Change) int { return cmp.Compare(a.Key, b.Key) })
}
