package version_test

import (
	"fmt"
	"slices"
	"testing"
	"unsafe"

	"bourse/api"
	"bourse/edit"
	"bourse/version"
)

// come: files that come to a level.
func come(level int, l ...edit.File) []edit.At {
	var all []edit.At
	for _, f := range l {
		all = append(all, edit.At{Level: level, File: f})
	}
	return all
}

// gone: numbers that go from a level.
func gone(level int, l ...uint64) []edit.Gone {
	var all []edit.Gone
	for _, n := range l {
		all = append(all, edit.Gone{Level: level, Number: n})
	}
	return all
}

// applied: as wanted, which is right; the version that it was made of stays.
func applied(t *testing.T, what string, v version.Version, e edit.Edit, wanted version.Version) {
	t.Helper()
	kept := copied(v)
	w, err := v.Apply(e)
	want(t, what, err, api.OK)
	if !version.Same(w, wanted) {
		t.Errorf("%s: %v, wanted %v", what, w, wanted)
	}
	want(t, what+": right", w.Right(), true)
	want(t, what+": it stays", version.Same(v, kept), true)
}

// refused: an error, and nothing beside it.
func refused(t *testing.T, what string, v version.Version, e edit.Edit, wanted api.Errno) {
	t.Helper()
	kept := copied(v)
	w, err := v.Apply(e)
	want(t, what, err, wanted)
	want(t, what+": files beside an error", w.Count(), 0)
	want(t, what+": it stays", version.Same(v, kept), true)
}

// copied: the same version with lists of its own.
func copied(v version.Version) version.Version {
	for level, l := range v.Levels {
		v.Levels[level] = slices.Clone(l)
	}
	return v
}

// TestCome: P13.1, each in its place, in whichever order they come.
func TestCome(t *testing.T) {
	zero := spans(9, "m n", "a z", "c d", "m n", "b b")
	other := spans(9, "a b", "c c", "d f", "g h", "i z")
	orders := [][]int{{0, 1, 2, 3, 4}, {4, 3, 2, 1, 0}, {2, 0, 4, 1, 3}, {1, 3, 0, 4, 2}, {3, 4, 0, 2, 1}}
	for level := range api.Levels {
		l := other
		if level == 0 {
			l = zero
		}
		for _, order := range orders {
			var all []edit.File
			for _, i := range order {
				all = append(all, l[i])
			}
			applied(t, fmt.Sprint("all at once, level ", level), version.Version{}, edit.Edit{Come: come(level, all...)}, on(level, l...))
			for n := range all {
				first, _ := version.Version{}.Apply(edit.Edit{Come: come(level, all[:n]...)})
				applied(t, fmt.Sprint("behind ", n), first, edit.Edit{Come: come(level, all[n:]...)}, on(level, l...))
			}
		}
	}
	v := of(spans(9, "a z"), spans(8, "a b"), spans(7, "a b"), spans(6, "a b"))
	e := edit.Edit{Come: slices.Concat(come(3, file(1, "c", "d")), come(0, file(20, "a", "b")), come(2, file(2, "c", "d")), come(1, file(30, "c", "d")))}
	applied(t, "to all levels", v, e, of([]edit.File{file(20, "a", "b"), file(9, "a", "z")}, []edit.File{file(8, "a", "b"), file(30, "c", "d")},
		[]edit.File{file(7, "a", "b"), file(2, "c", "d")}, []edit.File{file(6, "a", "b"), file(1, "c", "d")}))
	applied(t, "the least that may be told", version.Version{}, edit.Edit{Come: come(1, edit.File{Number: 1, Least: "a", Most: "a"})}, on(1, edit.File{Number: 1, Least: "a", Most: "a"}))
}

// TestGo: P13.1, without those that go; what goes may come in the same edit.
func TestGo(t *testing.T) {
	v := of(spans(9, "a z", "b y", "c x"), spans(6, "a b", "c d", "e f"), spans(3, "a b"))
	zero, one, two := v.Levels[0], v.Levels[1], v.Levels[2]
	none := version.Version{}
	applied(t, "nothing", v, edit.Edit{}, v)
	applied(t, "other numbers tell nothing", v, edit.Edit{Log: 1, Next: 2, Seq: 3}, v)
	applied(t, "nothing, of none", none, edit.Edit{}, none)
	for i, f := range zero {
		applied(t, "one of level 0", v, edit.Edit{Go: gone(0, f.Number)}, of(without(zero, i), one, two))
	}
	for i, f := range one {
		applied(t, "one of level 1", v, edit.Edit{Go: gone(1, f.Number)}, of(zero, without(one, i), two))
	}
	applied(t, "one level's", v, edit.Edit{Go: gone(0, 8, 7, 9)}, of(nil, one, two))
	applied(t, "the only one", v, edit.Edit{Go: gone(2, 3)}, of(zero, one))
	applied(t, "all", v, edit.Edit{Go: slices.Concat(gone(2, 3), gone(0, 7, 8, 9), gone(1, 4, 6, 5))}, none)

	applied(t, "one goes and comes", v, edit.Edit{Go: gone(1, 5), Come: come(1, one[1])}, v)
	applied(t, "one goes and comes to another level", v, edit.Edit{Go: gone(1, 5), Come: come(2, one[1])}, of(zero, without(one, 1), append(slices.Clone(two), one[1])))
	applied(t, "one goes and comes to level 0", v, edit.Edit{Go: gone(2, 3), Come: come(0, two[0])}, of(append(slices.Clone(zero), two[0]), one))
	applied(t, "one goes, its number comes with other keys", v, edit.Edit{Go: gone(1, 5), Come: come(1, file(5, "x", "z"))}, of(zero, []edit.File{one[0], one[2], file(5, "x", "z")}, two))
	applied(t, "those that overlap go", v, edit.Edit{Go: gone(1, 5, 6), Come: come(1, file(77, "a", "d"))}, of(zero, []edit.File{file(77, "a", "d"), one[2]}, two))
	applied(t, "a compaction", v, edit.Edit{Log: 7, Go: slices.Concat(gone(0, 9, 8, 7), gone(1, 6, 5, 4)), Come: come(1, file(21, "m", "z"), file(20, "a", "k"))},
		of(nil, []edit.File{file(20, "a", "k"), file(21, "m", "z")}, two))
	applied(t, "it takes the number 0 out of a wrong one", of(nil, []edit.File{file(5, "a", "b"), file(0, "c", "d")}), edit.Edit{Go: gone(1, 0)}, of(nil, spans(5, "a b")))
	applied(t, "it takes a turned level out of a wrong one", of(nil, spans(5, "c d", "a b")), edit.Edit{Go: gone(1, 5)}, of(nil, spans(4, "a b")))
}

func without(l []edit.File, i int) []edit.File { return slices.Delete(slices.Clone(l), i, i+1) }

// TestApplyErrors: P13.1, each error, and which comes first.
func TestApplyErrors(t *testing.T) {
	v := of(spans(9, "a z", "b y"), spans(6, "b c", "e f"), spans(3, "a b"))
	edits := func(c []edit.At, g []edit.Gone) edit.Edit { return edit.Edit{Come: c, Go: g} }
	for _, c := range []struct {
		what string
		e    edit.Edit
		want api.Errno
	}{
		{"201 come", edits(slices.Repeat(come(0, file(20, "a", "b")), 201), nil), api.ErrMany},
		{"201 go", edits(nil, slices.Repeat(gone(0, 9), 201)), api.ErrMany},
		{"to the level 4", edits(come(4, file(20, "a", "b")), nil), api.ErrLevel},
		{"to the level -1", edits(come(-1, file(20, "a", "b")), nil), api.ErrLevel},
		{"from the level 4", edits(nil, gone(4, 9)), api.ErrLevel},
		{"from the level -1", edits(nil, gone(-1, 9)), api.ErrLevel},
		{"keys turned round", edits(come(3, file(20, "b", "a")), nil), api.ErrKey},
		{"a key of 201", edits(come(3, file(20, "a", x(201))), nil), api.ErrKey},
		{"the number 0 comes", edits(come(3, file(0, "a", "b")), nil), api.ErrRange},

		{"the number 0 goes", edits(nil, gone(0, 0)), api.ErrNone},
		{"the number 0 goes from a level without files", edits(nil, gone(3, 0)), api.ErrNone},
		{"the number 0 goes behind others", edits(nil, append(gone(1, 6), gone(0, 9, 0)...)), api.ErrNone},
		{"the number 0 goes and comes", edits(come(3, file(0, "a", "b")), gone(3, 0)), api.ErrRange},
		{"the number 0 goes, then one from the level 4", edits(nil, append(gone(0, 0), gone(4, 9)...)), api.ErrLevel},
		{"one that isn't there goes", edits(nil, gone(0, 20)), api.ErrNone},
		{"one of another level goes", edits(nil, gone(0, 6)), api.ErrNone},
		{"one of level 0 goes from level 1", edits(nil, gone(1, 9)), api.ErrNone},
		{"one goes from a level without files", edits(nil, gone(3, 3)), api.ErrNone},
		{"one goes twice", edits(nil, gone(0, 9, 9)), api.ErrNone},
		{"one goes that only comes", edits(come(3, file(20, "a", "b")), gone(3, 20)), api.ErrNone},
		{"one goes and comes, and goes again", edits(come(0, file(9, "a", "z")), gone(0, 9, 9)), api.ErrNone},
		{"the last one that goes", edits(nil, gone(0, 9, 8, 7)), api.ErrNone},
		{"one more than all 64 bits tell", edits(nil, gone(0, 9+1<<32)), api.ErrNone},

		{"a number that is there, on level 0", edits(come(0, file(9, "a", "z")), nil), api.ErrBroken},
		{"a number that is there, with other keys", edits(come(1, file(6, "x", "y")), nil), api.ErrBroken},
		{"a number that is there, on another level", edits(come(3, file(9, "a", "z")), nil), api.ErrBroken},
		{"one comes twice", edits(come(0, file(20, "a", "z"), file(20, "a", "z")), nil), api.ErrBroken},
		{"one comes twice, to two levels", edits(slices.Concat(come(0, file(20, "a", "z")), come(3, file(20, "a", "z"))), nil), api.ErrBroken},
		{"one comes twice, and goes once", edits(come(0, file(9, "a", "z"), file(9, "a", "z")), gone(0, 9)), api.ErrBroken},
		{"it touches the one ahead", edits(come(1, file(20, "c", "d")), nil), api.ErrBroken},
		{"it touches the one behind", edits(come(1, file(20, "d", "e")), nil), api.ErrBroken},
		{"it touches the last one", edits(come(1, file(20, "f", "g")), nil), api.ErrBroken},
		{"it touches the first one", edits(come(1, file(20, "a", "b")), nil), api.ErrBroken},
		{"it overlaps both", edits(come(1, file(20, "bb", "ee")), nil), api.ErrBroken},
		{"it is over all", edits(come(1, file(20, "a", "z")), nil), api.ErrBroken},
		{"it is within one", edits(come(1, file(20, "bb", "bc")), nil), api.ErrBroken},
		{"the same keys", edits(come(1, file(20, "e", "f")), nil), api.ErrBroken},
		{"two that come overlap", edits(come(3, file(20, "a", "c"), file(21, "b", "d")), nil), api.ErrBroken},
		{"two that come have the same keys", edits(come(3, file(20, "a", "c"), file(21, "a", "c")), nil), api.ErrBroken},
		{"what it overlaps goes, but for one", edits(come(1, file(20, "a", "z")), gone(1, 6)), api.ErrBroken},

		{"layer 12's, and one that isn't there", edits(come(3, file(0, "a", "b")), gone(3, 20)), api.ErrRange},
		{"one that isn't there, and layer 12's behind it", edits(nil, append(gone(3, 20), gone(4, 1)...)), api.ErrLevel},
		{"layer 12's, and it overlaps", edits(append(come(1, file(20, "a", "z")), come(3, file(21, "", ""))...), nil), api.ErrKey},
		{"one that isn't there, and it overlaps", edits(come(1, file(20, "a", "z")), gone(3, 20)), api.ErrNone},
		{"one that isn't there, and a number twice", edits(come(3, file(9, "a", "z")), gone(3, 9)), api.ErrNone},
	} {
		refused(t, c.what, v, c.e, c.want)
	}
	refused(t, "none goes from none", version.Version{}, edits(nil, gone(0, 1)), api.ErrNone)
	refused(t, "the number 0 goes from none", version.Version{}, edits(nil, gone(0, 0)), api.ErrNone)
	for _, wrong := range []version.Version{of(nil, spans(5, "c d", "a b")), of([]edit.File{file(1, "a", "b"), file(2, "a", "b")}), on(3, spans(5, "a c", "b d")...), of(spans(5, "b a")), of(spans(5, "a b"), spans(5, "a b")), on(2, file(0, "a", "b"))} {
		refused(t, "a wrong one", wrong, edit.Edit{}, api.ErrBroken)
		refused(t, "a wrong one, and one comes", wrong, edits(come(3, file(20, "y", "z")), nil), api.ErrBroken)
	}
}

// TestManyCome: P13.1, more files than an edit tells stand in a version, edit by edit.
func TestManyCome(t *testing.T) {
	for level := range api.Levels {
		var v version.Version
		var wanted []edit.File
		for part := range 4 {
			var l []edit.File
			for i := range 200 {
				n := 4*i + part
				l = append(l, file(uint64(1000-n), fmt.Sprintf("%05d", n), fmt.Sprintf("%05d-", n)))
			}
			wanted = append(wanted, l...)
			slices.SortFunc(wanted, func(a, b edit.File) int { return int(b.Number) - int(a.Number) })
			applied(t, "200 more", v, edit.Edit{Come: come(level, l...)}, on(level, wanted...))
			v, _ = v.Apply(edit.Edit{Come: come(level, l...)})
		}
		want(t, "Count", v.Count(), 800)
	}
}

// TestMemory: what is handed in stays, spare room included; answers share none.
func TestMemory(t *testing.T) {
	spare := func(l []edit.File) []edit.File { return append(l, file(99, "spare", "room"))[:len(l)] }
	v := of(spare(spans(9, "a z", "b y")), spare(spans(6, "b c", "e f")), spare(spans(3, "a b")), spare(nil))
	whole := func() []edit.File {
		var l []edit.File
		for _, files := range v.Levels {
			l = append(l, files[:len(files)+1]...)
		}
		return l
	}
	comes := append(come(1, file(20, "x", "z")), come(3, file(99, "spare", "room"))...)
	goes := append(gone(0, 9), gone(9, 9)...)
	e := edit.Edit{Come: comes[:1], Go: goes[:1]}
	kept, keptComes, keptGoes := whole(), slices.Clone(comes), slices.Clone(goes)
	first, _ := v.Apply(e)
	second, _ := v.Apply(e)
	third, _ := v.Apply(edit.Edit{})
	p, _ := v.Pick(0, 0)
	q, _ := v.Pick(0, 0)
	all := [][]edit.File{p.Upper, p.Lower, q.Upper, q.Lower, v.Overlap(0, "a", "z"), v.Overlap(0, "a", "z"), v.Overlap(1, "a", "z")}
	for _, w := range []version.Version{first, second, third} {
		all = append(all, w.Levels[:]...)
	}
	lists := make([][]edit.File, len(all))
	for i, l := range all {
		lists[i] = slices.Clone(l)
	}
	for i, l := range all {
		for j := range l {
			l[j] = edit.File{}
		}
		_ = append(l, edit.File{})
		for j, m := range all {
			if j > i {
				list(t, fmt.Sprint("answer ", j, " behind a change of ", i), m, lists[j]...)
			}
		}
	}
	c := v.Files().Come
	c[0].File.Number = 77
	v.Numbers()[0] = 77
	list(t, "the files", whole(), kept...)
	list(t, "what comes", comes, keptComes...)
	list(t, "what goes", goes, keptGoes...)
}

// within: does a text stand in the memory of another one?
func within(s, whole string) bool {
	at, from := uintptr(unsafe.Pointer(unsafe.StringData(s))), uintptr(unsafe.Pointer(unsafe.StringData(whole)))
	return len(s) > 0 && at >= from && at < from+uintptr(len(whole))
}

// TestTextsOfTheirOwn: the texts of an answer, too, are new memory.
func TestTextsOfTheirOwn(t *testing.T) {
	v := of(spans(9, "least0 most0"), spans(6, "least1 most1"))
	e := edit.Edit{Come: come(2, file(20, "least2", "most2"))}
	own := func(what string, l ...edit.File) {
		t.Helper()
		for _, f := range l {
			for _, g := range []edit.File{v.Levels[0][0], v.Levels[1][0], e.Come[0].File} {
				want(t, what, within(f.Least, g.Least) || within(f.Most, g.Most), false)
			}
		}
	}
	w, _ := v.Apply(e)
	own("Apply", slices.Concat(w.Levels[:]...)...)
	own("Overlap", v.Overlap(0, "a", "z")...)
	for level := range 2 {
		p, _ := v.Pick(level, 0)
		own("Pick", append(p.Upper, p.Lower...)...)
	}
	for range 2 {
		for _, f := range v.For("least1") {
			own("For", f)
		}
	}
	for _, a := range v.Files().Come {
		own("Files", a.File)
	}
	first, second := v.Overlap(0, "a", "z"), v.Overlap(0, "a", "z")
	want(t, "two answers", within(first[0].Least, second[0].Least), false)
}
