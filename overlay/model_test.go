package overlay_test

import (
	"fmt"
	"maps"
	"slices"
	"strings"
	"testing"

	"bourse/api"
	"bourse/overlay"
)

// dice are numbers that look as if they came by chance, always the same ones.
type dice uint64

func (d *dice) below(n int) int {
	*d = *d*6364136223846793005 + 1442695040888963407
	return int(uint64(*d) >> 33 % uint64(n))
}

// model is the pairs behind so many changes, one map each.
type model struct {
	below  map[string]string
	states []map[string]string
	keys   []map[string]bool // that were changed
}

func over(below map[string]string) *model {
	return &model{below: below, states: []map[string]string{maps.Clone(below)}, keys: []map[string]bool{{}}}
}

func (m *model) now() map[string]string { return m.states[len(m.states)-1] }

func (m *model) do(c api.Change) {
	state, keys := maps.Clone(m.now()), maps.Clone(m.keys[len(m.keys)-1])
	apply(state, c)
	keys[c.Key] = true
	m.states, m.keys = append(m.states, state), append(m.keys, keys)
}

func (m *model) mark() int { return len(m.states) - 1 }

func (m *model) back(mark int) {
	if mark >= 0 && mark <= m.mark() {
		m.states, m.keys = m.states[:mark+1], m.keys[:mark+1]
	}
}

// changes: of keys that were changed, those that differ.
func (m *model) changes() []api.Change {
	var l []api.Change
	for _, key := range slices.Sorted(maps.Keys(m.keys[len(m.keys)-1])) {
		value, there := m.now()[key]
		old, was := m.below[key]
		switch {
		case there && (!was || value != old):
			l = append(l, api.Change{Kind: api.Put, Key: key, Value: value})
		case !there && was:
			l = append(l, api.Change{Kind: api.Delete, Key: key})
		}
	}
	return l
}

// apply: pairs behind a change.
func apply(state map[string]string, c api.Change) {
	switch c.Kind {
	case api.Put:
		state[c.Key] = c.Value
	case api.Delete:
		delete(state, c.Key)
	}
}

// row: a map's pairs within bounds.
func row(state map[string]string, from, to string) []api.Pair {
	var l []api.Pair
	for _, key := range slices.Sorted(maps.Keys(state)) {
		if key >= from && (to == "" || key < to) {
			l = append(l, api.Pair{Key: key, Value: state[key]})
		}
	}
	return l
}

// key: one of few, the empty one, too.
func (d *dice) key() string { return strings.Repeat("ab", 2)[d.below(3):][:d.below(2)] + d.letter() }

func (d *dice) letter() string { return []string{"", "\x00", "a", "b", "c", "\xff"}[d.below(6)] }

func (d *dice) change() api.Change {
	return api.Change{Kind: 1 + d.below(2), Key: d.key(), Value: []string{"", "1", "2"}[d.below(3)]}
}

// reads: a reader has what a map has.
func reads(t *testing.T, what string, d *dice, r overlay.Reader, state map[string]string) {
	t.Helper()
	for range 3 {
		from, to, key := d.key(), d.key(), d.key()
		list(t, fmt.Sprintf("%s: Range(%q, %q)", what, from, to), slices.Collect(r.Range(from, to)), row(state, from, to))
		value, there := r.Get(key)
		wanted, is := state[key]
		want(t, fmt.Sprintf("%s: Get(%q)", what, key), value, wanted)
		want(t, fmt.Sprintf("%s: is %q there", what, key), there, is)
	}
	list(t, what, slices.Collect(r.Range("", "")), row(state, "", ""))
}

// TestModel: P22.1 to P22.4, by dice: two overlays, one over the other, over a shelf, held against maps.
func TestModel(t *testing.T) {
	d := dice(22)
	for run := range 400 {
		pair := map[string]string{}
		var l []api.Pair
		for range d.below(12) {
			p := api.Pair{Key: d.key(), Value: []string{"", "1", "2"}[d.below(3)]}
			l = append(l, p)
			pair[p.Key] = p.Value
		}
		s := overlay.New(l...)
		low := overlay.Over(s)
		first := over(pair)
		for range d.below(10) {
			step(d.change(), low, first)
		}
		walk(t, fmt.Sprint("run ", run), &d, overlay.Over(low), over(first.now()))
		reads(t, "the one below", &d, low, first.now())
		reads(t, "the shelf", &d, s, pair)
		want(t, "the shelf: Len", s.Len(), len(pair))
		s.Do(low.Changes())
		reads(t, "the shelf with the changes", &d, s, first.now())
		if t.Failed() {
			return
		}
	}
}

// step: a change of both.
func step(c api.Change, o *overlay.Overlay, m *model) {
	if c.Kind == api.Put {
		o.Put(c.Key, c.Value)
	} else {
		o.Delete(c.Key)
	}
	m.do(c)
}

// walk: changes and ways back, looked at one by one.
func walk(t *testing.T, what string, d *dice, o *overlay.Overlay, m *model) {
	t.Helper()
	for range d.below(40) {
		if d.below(6) == 0 {
			mark := d.below(m.mark()+4) - 2
			o.Back(mark)
			m.back(mark)
		} else {
			step(d.change(), o, m)
		}
		want(t, what+": Mark", o.Mark(), m.mark())
		list(t, what+": Changes", o.Changes(), m.changes())
		reads(t, what, d, o, m.now())
	}
	same := overlay.New(row(m.below, "", "")...)
	same.Do(o.Changes())
	reads(t, what+": done below", d, same, m.now())
}

// TestManyKeys: P22.2, P22.3, many keys in any order, and all ways back.
func TestManyKeys(t *testing.T) {
	d := dice(7)
	s := overlay.New()
	o := overlay.Over(s)
	pairs := map[string]string{}
	for i := range 20000 {
		key := fmt.Sprint(d.below(1 << 30))
		o.Put(key, fmt.Sprint(i))
		pairs[key] = fmt.Sprint(i)
	}
	list(t, "an overlay", slices.Collect(o.Range("", "")), row(pairs, "", ""))
	s.Do(o.Changes())
	list(t, "a shelf", slices.Collect(s.Range("", "")), row(pairs, "", ""))
	o.Back(0)
	want(t, "back", len(o.Changes()), 0)
	o.Back(0)
	list(t, "back", slices.Collect(o.Range("", "")), row(pairs, "", ""))
}

// TestShelfModel: P22.1, by dice, with changes of no kind.
func TestShelfModel(t *testing.T) {
	d := dice(4)
	s, state := overlay.New(), map[string]string{}
	for range 3000 {
		var l []api.Change
		for range d.below(6) {
			c := d.change()
			c.Kind = d.below(4)
			l = append(l, c)
			apply(state, c)
		}
		s.Do(l)
		reads(t, fmt.Sprint("behind ", l), &d, s, state)
		want(t, "Len", s.Len(), len(state))
	}
}
