package merge_test

import (
	"cmp"
	"fmt"
	"iter"
	"slices"
	"strings"
	"testing"

	"bourse/api"
)

const top = 1<<56 - 1

// want: a test fails, if something is another thing than was wanted.
func want[T comparable](t *testing.T, what string, got, wanted T) {
	t.Helper()
	if got != wanted {
		t.Errorf("%s: %v, wanted %v", what, got, wanted)
	}
}

// row: as want, of rows; they are gone through twice.
func row[T comparable](t *testing.T, what string, got iter.Seq[T], wanted ...T) {
	t.Helper()
	for range 2 {
		if l := slices.Collect(got); !slices.Equal(l, wanted) {
			t.Errorf("%s: %v, wanted %v", what, l, wanted)
		}
	}
}

func put(key string, seq uint64, value string) api.Entry {
	return api.Entry{Key: key, Seq: seq, Kind: api.Put, Value: value}
}

func del(key string, seq uint64) api.Entry { return api.Entry{Key: key, Seq: seq, Kind: api.Delete} }

// of: entries as a row.
func of(l ...api.Entry) iter.Seq[api.Entry] { return slices.Values(l) }

// turned: entries the other way round.
func turned[T any](l []T) []T {
	l = slices.Clone(l)
	slices.Reverse(l)
	return l
}

// order: layer 8's, told once more.
func order(a, b api.Entry) int {
	return cmp.Or(strings.Compare(a.Key, b.Key), -cmp.Compare(a.Seq, b.Seq), -cmp.Compare(a.Kind, b.Kind))
}

// pairs: of keys and values, in turn.
func pairs(l ...string) []api.Pair {
	var all []api.Pair
	for i := 0; i < len(l); i += 2 {
		all = append(all, api.Pair{Key: l[i], Value: l[i+1]})
	}
	return all
}

// dice: numbers that look like chance, the same each time.
type dice uint64

func (d *dice) below(n int) int {
	*d = *d*6364136223846793005 + 1442695040888963407
	return int(uint64(*d>>33) % uint64(n))
}

// entries: some, rising, of few keys and numbers; each value tells whose it is.
func (d *dice) entries(most int, whose string) []api.Entry {
	var l []api.Entry
	for range d.below(most + 1) {
		e := api.Entry{Key: strings.Repeat("k", d.below(3)) + string(rune('a'+d.below(3))), Seq: uint64(d.below(8)), Kind: 1 + d.below(2)}
		e.Value = fmt.Sprint(whose, e.Key, e.Seq, e.Kind)
		l = append(l, e)
	}
	slices.SortFunc(l, order)
	return slices.Compact(l)
}
