package version_test

import (
	"fmt"
	"math"
	"slices"
	"strings"
	"testing"

	"bourse/api"
	"bourse/edit"
	"bourse/version"
)

// dice: numbers that look like chance, the same each time.
type dice uint64

func (d *dice) below(n int) int {
	*d = *d*6364136223846793005 + 1442695040888963407
	return int(uint64(*d>>33) % uint64(n))
}

// key: the one of a place among all; some begin alike.
func key(n int) string { return string(rune('a'+n/3)) + []string{"", "\x00", "b"}[n%3] }

// span: a file of a number, over at most so many of the first keys.
func (d *dice) span(number uint64, kinds, most int) edit.File {
	n := d.below(kinds)
	m := min(n+d.below(most), kinds-1)
	return edit.File{Number: number, Size: uint64(d.below(1000)), Count: uint64(d.below(9)), Least: key(n), Most: key(m)}
}

// apart: is one file's greatest key below the other one's least?
func apart(a, b edit.File) bool { return a.Most < b.Least || b.Most < a.Least }

// model: the files of a version without an order.
type model map[uint64]edit.At

// level: a level's files, sorted.
func (m model) level(level int) []edit.File {
	var l []edit.File
	for _, a := range m {
		if a.Level == level {
			l = append(l, a.File)
		}
	}
	slices.SortFunc(l, func(a, b edit.File) int {
		switch {
		case level > 0:
			return strings.Compare(a.Least, b.Least)
		case a.Number > b.Number:
			return -1
		}
		return 1
	})
	return l
}

// version: the same, in order.
func (m model) version() version.Version {
	var v version.Version
	for level := range v.Levels {
		v.Levels[level] = m.level(level)
	}
	return v
}

// apply: Apply told once more, file by file; of edits that layer 12 lets be.
func (m model) apply(e edit.Edit) (model, api.Errno) {
	next := model{}
	for n, a := range m {
		next[n] = a
	}
	for _, g := range e.Go {
		if a, ok := next[g.Number]; !ok || a.Level != g.Level {
			return nil, api.ErrNone
		}
		delete(next, g.Number)
	}
	for _, a := range e.Come {
		for n, b := range next {
			if n == a.File.Number || a.Level > 0 && a.Level == b.Level && !apart(a.File, b.File) {
				return nil, api.ErrBroken
			}
		}
		next[a.File.Number] = a
	}
	return next, api.OK
}

// pick: Pick told once more, one by one: whatever overlaps one that is picked, on level 0; then what overlaps one of these.
func (m model) pick(level, choice int) (upper, lower []edit.File) {
	l := m.level(level)
	in := map[uint64]bool{l[place(choice, len(l))].Number: true}
	for more := level == 0; more; {
		more = false
		for _, a := range l {
			for _, b := range l {
				if in[b.Number] && !in[a.Number] && !apart(a, b) {
					in[a.Number], more = true, true
				}
			}
		}
	}
	for _, f := range l {
		if in[f.Number] {
			upper = append(upper, f)
		}
	}
	for _, f := range m.level(level + 1) {
		if slices.ContainsFunc(upper, func(u edit.File) bool { return !apart(f, u) }) {
			lower = append(lower, f)
		}
	}
	return upper, lower
}

// edit: some files come, some of those that are there go, seldom with a fault.
func (d *dice) edit(m model, next *uint64, kinds, most int) edit.Edit {
	var e edit.Edit
	for range d.below(5) {
		n := *next
		*next++
		if d.below(30) == 0 {
			n = uint64(1 + d.below(int(n)))
		}
		e.Come = append(e.Come, edit.At{Level: d.below(4), File: d.span(n, kinds, most)})
	}
	for level := range api.Levels {
		for _, f := range m.level(level) {
			if d.below(6) == 0 {
				e.Go = append(e.Go, edit.Gone{Level: level, Number: f.Number})
			}
		}
	}
	if d.below(20) == 0 {
		e.Go = append(e.Go, edit.Gone{Level: d.below(4), Number: uint64(d.below(int(*next) + 1))})
	}
	for i := range e.Go {
		j := d.below(i + 1)
		e.Go[i], e.Go[j] = e.Go[j], e.Go[i]
	}
	return e
}

// TestModel: P13.1 to P13.4, edit by edit, whatever comes and goes.
func TestModel(t *testing.T) {
	d := dice(3)
	seen := map[api.Errno]int{}
	for range 60 {
		m, v := model{}, version.Version{}
		next := uint64(1)
		kinds, most := 6+d.below(60), 1+d.below(9)
		for range 120 {
			e := d.edit(m, &next, kinds, most)
			after, wanted := m.apply(e)
			kept := copied(v)
			w, err := v.Apply(e)
			want(t, "Apply", err, wanted)
			want(t, "it stays", version.Same(v, kept), true)
			seen[err]++
			if err == api.OK {
				m, v = after, w
			} else {
				want(t, "nothing beside an error", w.Count(), 0)
			}
			asModel(t, &d, m, v, kinds)
			if t.Failed() {
				return
			}
		}
	}
	for _, e := range []api.Errno{api.OK, api.ErrNone, api.ErrBroken} {
		if seen[e] < 100 {
			t.Errorf("the edits made %v %d times alone", e, seen[e])
		}
	}
}

// asModel: what is asked of a version is what the model says.
func asModel(t *testing.T, d *dice, m model, v version.Version, kinds int) {
	t.Helper()
	wanted := m.version()
	want(t, "Right", v.Right(), true)
	want(t, "Same", version.Same(v, wanted), true)
	want(t, "Count", v.Count(), len(m))
	var all []uint64
	for n := range m {
		all = append(all, n)
	}
	slices.Sort(all)
	list(t, "Numbers", v.Numbers(), all...)
	again, err := version.Version{}.Apply(v.Files())
	want(t, "made of its files", err == api.OK && version.Same(again, v), true)
	for level, l := range v.Levels {
		list(t, "a level", l, wanted.Levels[level]...)
		var sum uint64
		for _, f := range l {
			sum += f.Size
		}
		want(t, "Bytes", v.Bytes(level), sum)
		choice := d.below(40) - 20
		if level < 3 && len(l) > 0 {
			p, ok := v.Pick(level, choice)
			upper, lower := m.pick(level, choice)
			want(t, "Pick", ok && p.Level == level, true)
			list(t, "what is picked", p.Upper, upper...)
			list(t, "what is picked below", p.Lower, lower...)
			whole(t, v, p)
		}
	}
	least, most := key(d.below(kinds+3)), key(d.below(kinds+3))
	bounds := edit.File{Least: least, Most: most}
	bottom := true
	for level := 3; level >= 0; level-- {
		what := fmt.Sprintf("from %q to %q, level %d", least, most, level)
		want(t, what+": Bottom", v.Bottom(level, least, most), bottom)
		found := slices.DeleteFunc(m.level(level), func(f edit.File) bool { return apart(f, bounds) })
		list(t, what+": Overlap", v.Overlap(level, least, most), found...)
		bottom = bottom && len(found) == 0
	}
	var may []edit.At
	for level := range 4 {
		for _, f := range m.level(level) {
			if f.Least <= least && least <= f.Most {
				may = append(may, edit.At{Level: level, File: f})
			}
		}
	}
	list(t, "For", row(v, least, math.MaxInt), may...)
}

// whole: P13.4, what a Pick has is all that overlaps it, on its two levels.
func whole(t *testing.T, v version.Version, p version.Pick) {
	t.Helper()
	for _, f := range p.Upper {
		for _, g := range v.Overlap(p.Level, f.Least, f.Most) {
			want(t, "one that overlaps is picked", slices.Contains(p.Upper, g), true)
		}
		for _, g := range v.Overlap(p.Level+1, f.Least, f.Most) {
			want(t, "one below that overlaps is picked", slices.Contains(p.Lower, g), true)
		}
	}
	for _, f := range p.Lower {
		want(t, "one below overlaps", slices.ContainsFunc(p.Upper, func(u edit.File) bool { return !apart(u, f) }), true)
	}
}
