package session

import (
	"iter"

	"bourse/api"
	"bourse/store"
)

// view is a store's pairs, as they are seen at a number that is asked for each time.
type view struct {
	s  *store.Store
	at func() uint64
}

// Get: a value.
func (v view) Get(key string) (string, bool) { return v.s.Get(key, v.at()) }

// Range: pairs, rising.
func (v view) Range(from, to string) iter.Seq[api.Pair] {
	return func(yield func(api.Pair) bool) { v.s.Range(from, to, v.at())(yield) }
}
