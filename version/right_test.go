package version_test

import (
	"fmt"
	"math"
	"slices"
	"strings"
	"testing"

	"bourse/api"
	"bourse/edit"
	"bourse/version"
)

// want: a test fails, if something is another thing than was wanted.
func want[T comparable](t *testing.T, what string, got, wanted T) {
	t.Helper()
	if got != wanted {
		t.Errorf("%s: %v, wanted %v", what, got, wanted)
	}
}

// list: as want, of lists.
func list[T comparable](t *testing.T, what string, got []T, wanted ...T) {
	t.Helper()
	if !slices.Equal(got, wanted) {
		t.Errorf("%s: %v, wanted %v", what, got, wanted)
	}
}

func x(n int) string { return strings.Repeat("x", n) }

// file: one of a number, with keys from and to some.
func file(number uint64, least, most string) edit.File {
	return edit.File{Number: number, Size: number * 10, Count: number + 1, Least: least, Most: most}
}

// of: the version of these levels.
func of(levels ...[]edit.File) version.Version {
	var v version.Version
	copy(v.Levels[:], levels)
	return v
}

// on: the version of one level.
func on(level int, l ...edit.File) version.Version {
	var v version.Version
	v.Levels[level] = l
	return v
}

// spans: files of texts of two keys each, with numbers that fall from so many on.
func spans(number uint64, l ...string) []edit.File {
	var files []edit.File
	for i, s := range l {
		least, most, _ := strings.Cut(s, " ")
		files = append(files, file(number-uint64(i), least, most))
	}
	return files
}

// numbers: those of files, in order.
func numbers(l []edit.File) []uint64 {
	var all []uint64
	for _, f := range l {
		all = append(all, f.Number)
	}
	return all
}

// beyond: levels that there aren't.
func beyond() []int {
	return []int{math.MinInt, math.MinInt + 1, -5, -1, 4, 5, 256, 1 << 32, math.MaxInt - 1, math.MaxInt}
}

// TestRightAlone: P13.1, a level's files, by their order and their keys.
func TestRightAlone(t *testing.T) {
	for _, c := range []struct {
		what        string
		l           []edit.File
		zero, other bool // on level 0, on another one
	}{
		{"none", nil, true, true},
		{"none, in a list", []edit.File{}, true, true},
		{"one", spans(5, "a b"), true, true},
		{"one of one key", spans(5, "a a"), true, true},
		{"apart", spans(5, "a b", "c d", "e f"), true, true},
		{"of one key each", spans(5, "a a", "b b", "c c"), true, true},
		{"apart, the other way round", spans(5, "e f", "c d", "a b"), true, false},
		{"apart, the last two the other way round", spans(5, "a b", "e f", "c d"), true, false},
		{"as near as they may be", spans(5, "a b", "b\x00 c", "c\x00 d"), true, true},
		{"they touch", spans(5, "a b", "b c"), true, false},
		{"they touch, the last two", spans(5, "a b", "c d", "d e"), true, false},
		{"they touch in a key that is all of one", spans(5, "a b", "b b"), true, false},
		{"the first is all of the second's least", spans(5, "a a", "a b"), true, false},
		{"they overlap", spans(5, "a c", "b d"), true, false},
		{"one within another one", spans(5, "a d", "b c"), true, false},
		{"one within another one, behind it", spans(5, "b c", "a d"), true, false},
		{"the same keys", spans(5, "a b", "a b"), true, false},
		{"the same least", spans(5, "a b", "a c"), true, false},
		{"the first over all others", spans(5, "a z", "b c", "d e"), true, false},
		{"the last over all others", spans(5, "b c", "d e", "a z"), true, false},
		{"numbers rise", []edit.File{file(1, "a", "b"), file(2, "c", "d"), file(3, "e", "f")}, false, true},
		{"the last two numbers rise", []edit.File{file(5, "a", "b"), file(3, "c", "d"), file(4, "e", "f")}, false, true},
		{"numbers rise, and keys fall", []edit.File{file(1, "c", "d"), file(2, "a", "b")}, false, false},
		{"one number twice", []edit.File{file(1, "a", "b"), file(1, "c", "d")}, false, false},
		{"one number twice, one between", []edit.File{file(2, "a", "b"), file(1, "c", "d"), file(2, "e", "f")}, false, false},
		{"a number twice, the same file", []edit.File{file(1, "a", "b"), file(1, "a", "b")}, false, false},
		{"the utmost numbers", []edit.File{file(math.MaxUint64, "a", "b"), file(1<<63, "c", "d"), file(1<<63-1, "e", "f"), file(1, "g", "h")}, true, true},
		{"the number 0", []edit.File{file(0, "a", "b")}, false, false},
		{"the number 0 at last", []edit.File{file(1, "a", "b"), file(0, "c", "d")}, false, false},
		{"no least", spans(5, " b"), false, false},
		{"no greatest", []edit.File{file(5, "a", "")}, false, false},
		{"no keys", []edit.File{file(5, "", "")}, false, false},
		{"keys turned round", spans(5, "b a"), false, false},
		{"keys turned round, the second", spans(5, "a b", "d c"), false, false},
		{"keys of 200", []edit.File{file(5, x(199), x(200))}, true, true},
		{"a least of 201", []edit.File{file(5, x(201), "y")}, false, false},
		{"a greatest of 201", []edit.File{file(5, "a", x(201))}, false, false},
		{"no bytes, no entries", []edit.File{{Number: 1, Least: "a", Most: "a"}}, true, true},
		{"the zero one", []edit.File{{}}, false, false},
	} {
		for level := range api.Levels {
			wanted := c.other
			if level == 0 {
				wanted = c.zero
			}
			want(t, fmt.Sprint(c.what, ", level ", level), on(level, c.l...).Right(), wanted)
		}
	}
}

// TestRightTogether: P13.1, levels beside one another.
func TestRightTogether(t *testing.T) {
	one, two := spans(1, "a z"), spans(2, "a z")
	for i := range api.Levels {
		for j := range api.Levels {
			if i == j {
				continue
			}
			v := on(i, one...)
			v.Levels[j] = two
			want(t, "two levels overlap", v.Right(), true)
			v.Levels[j] = spans(1, "a z")
			want(t, "a number on two levels", v.Right(), false)
			v.Levels[j] = spans(1, "zz zzz")
			want(t, "a number on two levels, other keys", v.Right(), false)
			v.Levels[j] = spans(3, "d e", "a b")
			want(t, "on one of them they don't rise", v.Right(), j == 0)
		}
	}
	want(t, "all levels", of(spans(9, "a z", "b y"), spans(7, "a b", "c d"), spans(5, "a d", "e f"), spans(3, "a z")).Right(), true)
	want(t, "all levels, one number twice", of(spans(9, "a z", "b y"), spans(7, "a b", "c d"), spans(5, "a d", "e f"), spans(8, "a z")).Right(), false)
	var l []edit.File
	for i := range 3000 {
		l = append(l, file(uint64(5000-i), fmt.Sprintf("%05d", 2*i), fmt.Sprintf("%05d", 2*i+1)))
	}
	for level := range api.Levels {
		want(t, "many", on(level, l...).Right(), true)
		m := slices.Clone(l)
		m[2999].Number = m[0].Number
		want(t, "many, one number twice", on(level, m...).Right(), false)
	}
}

// TestNumbersOfFiles: P13.1, Count, Bytes and Numbers, of right versions and of others.
func TestNumbersOfFiles(t *testing.T) {
	v := of(spans(9, "a z", "b y"), spans(3, "a b", "c d"), nil, spans(12, "a z"))
	want(t, "Count", v.Count(), 5)
	list(t, "Numbers", v.Numbers(), 2, 3, 8, 9, 12)
	for level, wanted := range []uint64{170, 50, 0, 120} {
		want(t, fmt.Sprint("Bytes of level ", level), v.Bytes(level), wanted)
	}
	var none version.Version
	want(t, "Count of none", none.Count(), 0)
	list(t, "Numbers of none", none.Numbers())
	for level := range api.Levels {
		want(t, "Bytes of none", none.Bytes(level), 0)
		want(t, "Count of one", on(level, spans(7, "a b")...).Count(), 1)
		list(t, "Numbers of one", on(level, spans(7, "a b")...).Numbers(), 7)
	}
	for _, level := range beyond() {
		want(t, fmt.Sprint("Bytes of level ", level), v.Bytes(level), 0)
	}
	sized := func(sizes ...uint64) []edit.File {
		var l []edit.File
		for _, n := range sizes {
			l = append(l, edit.File{Number: 1, Size: n, Count: 77})
		}
		return l
	}
	for level := range api.Levels {
		want(t, "up to the utmost", on(level, sized(math.MaxUint64-5, 5)...).Bytes(level), math.MaxUint64)
		want(t, "round to 0", on(level, sized(math.MaxUint64, 1)...).Bytes(level), 0)
		want(t, "round", on(level, sized(1<<63, 1<<63, 1<<63, 7)...).Bytes(level), 1<<63+7)
		want(t, "round twice", on(level, sized(math.MaxUint64, math.MaxUint64, math.MaxUint64, 10)...).Bytes(level), 7)
	}
	wrong := of([]edit.File{file(1, "b", "a"), file(5, "", "")}, []edit.File{file(5, "c", "d"), file(0, "a", "b")})
	want(t, "Count of a wrong one", wrong.Count(), 4)
	list(t, "Numbers of a wrong one", wrong.Numbers(), 0, 1, 5, 5)
	list(t, "the utmost Numbers", of(nil, []edit.File{file(math.MaxUint64, "a", "b"), file(1<<63, "c", "d"), file(1, "e", "f")}).Numbers(), 1, 1<<63, math.MaxUint64)
}

// TestSame: P13.1, each part counts.
func TestSame(t *testing.T) {
	a, b := file(9, "a", "z"), file(8, "b", "y")
	changed := func(change func(*edit.File)) version.Version {
		f := b
		change(&f)
		return of([]edit.File{a, f})
	}
	all := []version.Version{
		{}, of([]edit.File{a, b}), of([]edit.File{b, a}), of([]edit.File{a}), of([]edit.File{b}), of([]edit.File{a, b, b}),
		of(nil, []edit.File{a, b}), on(2, a, b), on(3, a, b), of([]edit.File{a}, []edit.File{b}), of([]edit.File{b}, []edit.File{a}), of([]edit.File{{}}), on(3, edit.File{}),
		changed(func(f *edit.File) { f.Number++ }),
		changed(func(f *edit.File) { f.Number += 1 << 32 }),
		changed(func(f *edit.File) { f.Size++ }),
		changed(func(f *edit.File) { f.Count++ }),
		changed(func(f *edit.File) { f.Least = "B" }),
		changed(func(f *edit.File) { f.Most = "Y" }),
		changed(func(f *edit.File) { f.Least, f.Most = "", "" }),
	}
	for i, v := range all {
		for j, w := range all {
			for level, l := range w.Levels {
				w.Levels[level] = slices.Clone(l)
			}
			want(t, fmt.Sprint(v, " and ", w), version.Same(v, w), i == j)
		}
	}
	want(t, "nil and empty lists", version.Same(version.Version{}, of([]edit.File{}, nil, []edit.File{}, []edit.File{})), true)
}

// TestFiles: P13.1, P13.4, all come, level by level, in order; what is made of them is the same.
func TestFiles(t *testing.T) {
	v := of(spans(9, "b y", "a z"), spans(3, "a b", "c d"), nil, spans(12, "a z"))
	e := v.Files()
	list(t, "Files", e.Come,
		edit.At{File: file(9, "b", "y")}, edit.At{File: file(8, "a", "z")},
		edit.At{Level: 1, File: file(3, "a", "b")}, edit.At{Level: 1, File: file(2, "c", "d")},
		edit.At{Level: 3, File: file(12, "a", "z")})
	want(t, "nothing else is told", edit.Same(e, edit.Edit{Come: e.Come}), true)
	w, err := version.Version{}.Apply(e)
	want(t, "made again", err == api.OK && version.Same(v, w), true)
	want(t, "of none", edit.Same(version.Version{}.Files(), edit.Edit{}), true)
	wrong := of([]edit.File{file(1, "b", "a"), file(5, "", "")}, []edit.File{file(5, "c", "d"), file(0, "a", "b")})
	list(t, "of a wrong one", wrong.Files().Come,
		edit.At{File: file(1, "b", "a")}, edit.At{File: file(5, "", "")}, edit.At{Level: 1, File: file(5, "c", "d")}, edit.At{Level: 1, File: file(0, "a", "b")})
	var l []edit.File
	for i := range 200 {
		l = append(l, file(uint64(500-i), fmt.Sprintf("%05d", 2*i), fmt.Sprintf("%05d", 2*i+1)))
	}
	for level := range api.Levels {
		v := on(level, l...)
		w, err := version.Version{}.Apply(v.Files())
		want(t, "200 made again", err == api.OK && version.Same(v, w), true)
	}
}
