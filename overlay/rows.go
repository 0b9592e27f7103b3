package overlay

import (
	"cmp"
	"iter"
	"slices"
	"strings"

	"bourse/api"
)

func pairKey(p api.Pair) string { return p.Key }

func changeKey(c *api.Change) string { return c.Key }

// seek: the place of a key among things that rise by theirs, and whether one has it.
func seek[T any](l []T, keyOf func(T) string, key string) (int, bool) {
	return slices.BinarySearchFunc(l, key, func(x T, key string) int { return cmp.Compare(keyOf(x), key) })
}

// within: those from a key on, below another one (the empty one: no end).
func within[T any](l []T, keyOf func(T) string, from, to string) []T {
	i, _ := seek(l, keyOf, from)
	if to == "" {
		return l[i:]
	}
	end, _ := seek(l, keyOf, to)
	return l[i:max(i, end)]
}

// merged: a row's pairs behind changes, both of which rise.
func merged(pairs iter.Seq[api.Pair], changes []*api.Change) iter.Seq[api.Pair] {
	return func(yield func(api.Pair) bool) {
		rest := changes
		for p := range pairs {
		next:
			if len(rest) == 0 || p.Key < rest[0].Key {
				if !yield(p) {
					return
				}
				continue
			}
			c := rest[0]
			rest = rest[1:]
			if !tell(c, yield) {
				return
			}
			// A change of the pair's key stands for it.
			if c.Key < p.Key {
				goto next
			}
		}
		for _, c := range rest {
			if !tell(c, yield) {
				return
			}
		}
	}
}

// tell: the pair that a change leaves, if it leaves one; is more wanted?
func tell(c *api.Change, yield func(api.Pair) bool) bool {
	return c.Kind != api.Put || yield(api.Pair{Key: strings.Clone(c.Key), Value: strings.Clone(c.Value)})
}
