package edit_test

import (
	"fmt"
	"math"
	"slices"
	"strings"
	"testing"
	"unsafe"

	"bourse/api"
	"bourse/edit"
)

// want: a test fails, if something is another thing than was wanted.
func want[T comparable](t *testing.T, what string, got, wanted T) {
	t.Helper()
	if got != wanted {
		t.Errorf("%s: %v, wanted %v", what, got, wanted)
	}
}

// short: bytes that a test can tell.
func short(s string) string {
	if len(s) > 60 {
		return s[:60] + ".."
	}
	return s
}

// same: as want, of bytes.
func same(t *testing.T, what, got, wanted string) {
	t.Helper()
	if got != wanted {
		t.Errorf("%s: %d bytes %x, wanted %d bytes %x", what, len(got), short(got), len(wanted), short(wanted))
	}
}

func x(n int) string { return strings.Repeat("x", n) }

// at: a file of a number that comes to a level.
func at(level int, number uint64, least, most string) edit.At {
	return edit.At{Level: level, File: edit.File{Number: number, Size: 5, Count: 1, Least: least, Most: most}}
}

func come(l ...edit.At) edit.Edit { return edit.Edit{Come: l} }

func gone(l ...edit.Gone) edit.Edit { return edit.Edit{Go: l} }

// both: what comes and what goes.
func both(a edit.At, g edit.Gone) edit.Edit {
	return edit.Edit{Come: []edit.At{a}, Go: []edit.Gone{g}}
}

// examples: edits by their bytes.
func examples() map[string]edit.Edit {
	const utmost = "\xff\xff\xff\xff\xff\xff\xff\xff\xff\x01"
	a := at(0, 1, "a", "a")
	return map[string]edit.Edit{
		"\x00\x00\x00\x00\x00":                                 {},
		"\x01\x02\x03\x00\x00":                                 {Log: 1, Next: 2, Seq: 3},
		"\xac\x02\x7f\x80\x01\x00\x00":                         {Log: 300, Next: 127, Seq: 128},
		utmost + utmost + utmost + "\x00\x00":                  {Log: math.MaxUint64, Next: math.MaxUint64, Seq: math.MaxUint64},
		"\x00\x00\x00\x01\x00\x01\x05\x01\x01a\x01a\x00":       come(a),
		"\x00\x00\x00\x01\x03\x01\x05\x01\x01a\x02ab\x00":      come(at(3, 1, "a", "ab")),
		"\x00\x00\x00\x01\x02\x01\x00\x00\x01\x00\x01\xff\x00": come(edit.At{Level: 2, File: edit.File{Number: 1, Least: "\x00", Most: "\xff"}}),
		"\x00\x00\x00\x01\x01" + utmost + utmost + utmost + "\x01a\xc8\x01" + x(200) + "\x00": come(edit.At{Level: 1, File: edit.File{
			Number: math.MaxUint64, Size: math.MaxUint64, Count: math.MaxUint64, Least: "a", Most: x(200)}}),
		"\x00\x00\x00\x01\x00\x01\x05\x01\xc8\x01" + x(200) + "\xc8\x01" + x(200) + "\x00": come(at(0, 1, x(200), x(200))),
		"\x00\x00\x00\x00\x01\x00\x01":                  gone(edit.Gone{Number: 1}),
		"\x00\x00\x00\x00\x01\x00\x00":                  gone(edit.Gone{}),
		"\x00\x00\x00\x00\x03\x03\x00\x01\x07\x01\x00":  gone(edit.Gone{Level: 3}, edit.Gone{Level: 1, Number: 7}, edit.Gone{Level: 1}),
		"\x00\x00\x00\x00\x02\x03\xac\x02\x01" + utmost: gone(edit.Gone{Level: 3, Number: 300}, edit.Gone{Level: 1, Number: math.MaxUint64}),
		"\x07\x08\x09\x02\x01\x04\x03\x02\x01b\x01c\x00\x05\x06\x07\x01a\x01d\x02\x00\x04\x02\x05": {Log: 7, Next: 8, Seq: 9,
			Come: []edit.At{{Level: 1, File: edit.File{Number: 4, Size: 3, Count: 2, Least: "b", Most: "c"}}, {File: edit.File{Number: 5, Size: 6, Count: 7, Least: "a", Most: "d"}}},
			Go:   []edit.Gone{{Number: 4}, {Level: 2, Number: 5}}},
		"\x00\x00\x00\xc8\x01" + strings.Repeat("\x00\x01\x05\x01\x01a\x01a", 200) + "\x00": come(slices.Repeat([]edit.At{a}, 200)...),
		"\x00\x00\x00\x00\xc8\x01" + strings.Repeat("\x02\x07", 200):                        gone(slices.Repeat([]edit.Gone{{Level: 2, Number: 7}}, 200)...),
		"\x00\x00\x00\xc8\x01" + strings.Repeat("\x00\x01\x05\x01\x01a\x01a", 200) + "\xc8\x01" + strings.Repeat("\x02\x07", 200): {
			Come: slices.Repeat([]edit.At{a}, 200), Go: slices.Repeat([]edit.Gone{{Level: 2, Number: 7}}, 200)},
	}
}

// TestExamples: P12.1 and P12.3, both ways, all bytes.
func TestExamples(t *testing.T) {
	for s, e := range examples() {
		what := fmt.Sprintf("%x", short(s))
		want(t, what+": Check", e.Check(), api.OK)
		got, err := e.Bytes()
		same(t, what, got, s)
		want(t, what+": Bytes", err, api.OK)
		back, err := edit.Parse(s)
		want(t, what+": Parse", err, api.OK)
		if !equal(back, e) {
			t.Errorf("%s: %v, wanted %v", what, back, e)
		}
	}
}

// equal: Same, told once more.
func equal(a, b edit.Edit) bool {
	if a.Log != b.Log || a.Next != b.Next || a.Seq != b.Seq || len(a.Come) != len(b.Come) || len(a.Go) != len(b.Go) {
		return false
	}
	for i, x := range a.Come {
		y := b.Come[i]
		f, g := x.File, y.File
		if x.Level != y.Level || f.Number != g.Number || f.Size != g.Size || f.Count != g.Count || f.Least != g.Least || f.Most != g.Most {
			return false
		}
	}
	for i, x := range a.Go {
		if x.Level != b.Go[i].Level || x.Number != b.Go[i].Number {
			return false
		}
	}
	return true
}

// checked: Check's answer; Bytes' is that, without bytes.
func checked(t *testing.T, what string, e edit.Edit, wanted api.Errno) {
	t.Helper()
	want(t, what, e.Check(), wanted)
	s, err := e.Bytes()
	want(t, what+": Bytes", err, wanted)
	if wanted != api.OK {
		same(t, what+": bytes", s, "")
		return
	}
	back, err := edit.Parse(s)
	want(t, what+": read again", err == api.OK && equal(back, e), true)
}

// TestCheck: P12.1, the edges of each part.
func TestCheck(t *testing.T) {
	a, g := at(0, 1, "a", "b"), edit.Gone{Number: 1}
	comes := func(n int) []edit.At { return slices.Repeat([]edit.At{a}, n) }
	goes := func(n int) []edit.Gone { return slices.Repeat([]edit.Gone{g}, n) }
	checked(t, "the empty one", edit.Edit{}, api.OK)
	checked(t, "empty lists", edit.Edit{Come: []edit.At{}, Go: []edit.Gone{}}, api.OK)
	for n, wanted := range map[int]api.Errno{1: api.OK, 199: api.OK, 200: api.OK, 201: api.ErrMany, 5000: api.ErrMany} {
		checked(t, fmt.Sprint(n, " come"), come(comes(n)...), wanted)
		checked(t, fmt.Sprint(n, " go"), gone(goes(n)...), wanted)
		checked(t, fmt.Sprint(n, " come, 200 go"), edit.Edit{Come: comes(n), Go: goes(200)}, wanted)
		checked(t, fmt.Sprint("200 come, ", n, " go"), edit.Edit{Come: comes(200), Go: goes(n)}, wanted)
	}
	for level, wanted := range map[int]api.Errno{math.MinInt: api.ErrLevel, -1: api.ErrLevel, 0: api.OK, 1: api.OK, 2: api.OK, 3: api.OK, 4: api.ErrLevel, 256: api.ErrLevel, 1 << 32: api.ErrLevel, math.MaxInt: api.ErrLevel} {
		checked(t, fmt.Sprint("to level ", level), come(a, at(level, 2, "c", "d")), wanted)
		checked(t, fmt.Sprint("from level ", level), gone(g, edit.Gone{Level: level, Number: 2}), wanted)
	}
	for _, c := range []struct {
		least, most string
		want        api.Errno
	}{
		{"", "", api.ErrKey},
		{"", "a", api.ErrKey},
		{"a", "", api.ErrKey},
		{"a", "a", api.OK},
		{"\x00", "\x00", api.OK},
		{"a", "b", api.OK},
		{"a", "ab", api.OK},
		{"ab", "a", api.ErrKey},
		{"b", "a", api.ErrKey},
		{"\xff", "\x00", api.ErrKey},
		{"b", "aaa", api.ErrKey},
		{"B", "a", api.OK},
		{"a", x(200), api.OK},
		{"a", x(201), api.ErrKey},
		{x(200), x(200), api.OK},
		{x(200), "y", api.OK},
		{x(201), "y", api.ErrKey},
		{x(201), x(201), api.ErrKey},
		{x(200), x(199), api.ErrKey},
		{"a", x(70000), api.ErrKey},
	} {
		what := fmt.Sprintf("from %.10q to %.10q", c.least, c.most)
		for level := range api.Levels {
			checked(t, what, come(at(level, 7, c.least, c.most)), c.want)
			checked(t, what+", behind one", come(a, at(level, 7, c.least, c.most)), c.want)
		}
	}
	for n, wanted := range map[uint64]api.Errno{0: api.ErrRange, 1: api.OK, 1 << 32: api.OK, math.MaxUint64: api.OK} {
		checked(t, fmt.Sprint("the number ", n, " comes"), come(a, at(3, n, "a", "b")), wanted)
		for level := range api.Levels {
			checked(t, fmt.Sprint("the number ", n, " goes"), gone(g, edit.Gone{Level: level, Number: n}), api.OK)
		}
	}
	checked(t, "no bytes, no entries", come(edit.At{File: edit.File{Number: 1, Least: "a", Most: "a"}}), api.OK)
	checked(t, "the number 0 alone goes", gone(edit.Gone{}), api.OK)
	checked(t, "the number 0 goes 200 times", gone(make([]edit.Gone, 200)...), api.OK)
	checked(t, "the same one comes, and goes, twice", edit.Edit{Come: comes(2), Go: goes(2)}, api.OK)
}

// TestCheckFirst: P12.1, which error comes first.
func TestCheckFirst(t *testing.T) {
	a, g := at(0, 1, "a", "b"), edit.Gone{Number: 1}
	level, key, number := at(4, 1, "a", "b"), at(0, 1, "b", "a"), at(0, 0, "a", "b")
	from, none := edit.Gone{Level: 4, Number: 1}, edit.Gone{}
	for _, c := range []struct {
		what string
		e    edit.Edit
		want api.Errno
	}{
		{"too many come, all wrong", come(slices.Repeat([]edit.At{at(-1, 0, "", "")}, 201)...), api.ErrMany},
		{"too many go, of the number 0", gone(make([]edit.Gone, 201)...), api.ErrMany},
		{"too many go, all wrong", gone(slices.Repeat([]edit.Gone{{Level: -1}}, 201)...), api.ErrMany},
		{"what comes is wrong, too many go", edit.Edit{Come: []edit.At{level}, Go: slices.Repeat([]edit.Gone{g}, 201)}, api.ErrMany},
		{"level, key and number", come(at(4, 0, "", "")), api.ErrLevel},
		{"the zero one comes", come(edit.At{}), api.ErrKey},
		{"level and key", come(at(-1, 1, "b", "a")), api.ErrLevel},
		{"level and number", come(at(-1, 0, "a", "b")), api.ErrLevel},
		{"key and number", come(at(0, 0, "b", "a")), api.ErrKey},
		{"a long key and number", come(at(0, 0, "a", x(201))), api.ErrKey},
		{"level, then key", come(level, key), api.ErrLevel},
		{"level, then number", come(level, number), api.ErrLevel},
		{"key, then level", come(key, level), api.ErrKey},
		{"key, then number", come(key, number), api.ErrKey},
		{"number, then level", come(number, level), api.ErrRange},
		{"number, then key", come(number, key), api.ErrRange},
		{"the last one's level", come(append(slices.Repeat([]edit.At{a}, 199), level)...), api.ErrLevel},
		{"key of what comes, level of what goes", both(key, from), api.ErrKey},
		{"number of what comes, level of what goes", both(number, from), api.ErrRange},
		{"level of what comes, the number 0 goes", both(level, none), api.ErrLevel},
		{"level of what goes alone", both(a, from), api.ErrLevel},
		{"the number 0 goes", both(a, none), api.OK},
		{"key of what comes, the number 0 goes", both(key, none), api.ErrKey},
		{"number of what comes, the number 0 goes", both(number, none), api.ErrRange},
		{"level of what goes, and the number 0", gone(edit.Gone{Level: 4}), api.ErrLevel},
		{"level of what goes, then the number 0", gone(from, none), api.ErrLevel},
		{"the number 0, then level of what goes", gone(none, from), api.ErrLevel},
		{"the last one that goes", gone(append(slices.Repeat([]edit.Gone{g}, 199), from)...), api.ErrLevel},
	} {
		checked(t, c.what, c.e, c.want)
	}
}

// TestSame: P12.2, each part counts.
func TestSame(t *testing.T) {
	made := func(change func(*edit.Edit)) edit.Edit {
		e := edit.Edit{Log: 1, Next: 2, Seq: 3, Come: []edit.At{at(0, 4, "a", "b"), at(1, 5, "c", "d")}, Go: []edit.Gone{{Number: 6}, {Level: 2, Number: 7}}}
		change(&e)
		return e
	}
	all := []edit.Edit{{}, {Log: 1}, {Next: 1}, {Seq: 1}, come(edit.At{}), gone(edit.Gone{}), both(edit.At{}, edit.Gone{}), come(edit.At{Level: -1}), come(at(0, 0, "b", "a"))}
	for _, change := range []func(*edit.Edit){
		func(e *edit.Edit) {},
		func(e *edit.Edit) { e.Log = 0 },
		func(e *edit.Edit) { e.Next = 0 },
		func(e *edit.Edit) { e.Seq = 0 },
		func(e *edit.Edit) { e.Log, e.Next = e.Next, e.Log },
		func(e *edit.Edit) { e.Next, e.Seq = e.Seq, e.Next },
		func(e *edit.Edit) { e.Come = nil },
		func(e *edit.Edit) { e.Go = nil },
		func(e *edit.Edit) { e.Come = e.Come[:1] },
		func(e *edit.Edit) { e.Go = e.Go[:1] },
		func(e *edit.Edit) { e.Come = e.Come[1:] },
		func(e *edit.Edit) { e.Go = e.Go[1:] },
		func(e *edit.Edit) { e.Come = append(e.Come, e.Come[1]) },
		func(e *edit.Edit) { e.Go = append(e.Go, e.Go[1]) },
		func(e *edit.Edit) { slices.Reverse(e.Come) },
		func(e *edit.Edit) { slices.Reverse(e.Go) },
		func(e *edit.Edit) { e.Come[1].Level = 2 },
		func(e *edit.Edit) { e.Come[1].File.Number++ },
		func(e *edit.Edit) { e.Come[1].File.Size++ },
		func(e *edit.Edit) { e.Come[1].File.Count++ },
		func(e *edit.Edit) { e.Come[1].File.Least = "C" },
		func(e *edit.Edit) { e.Come[1].File.Most = "D" },
		func(e *edit.Edit) { e.Come[0].File.Most = "" },
		func(e *edit.Edit) { e.Go[1].Level = 1 },
		func(e *edit.Edit) { e.Go[1].Number++ },
		func(e *edit.Edit) { e.Go[0].Number += 1 << 32 },
	} {
		all = append(all, made(change))
	}
	again := slices.Clone(all)
	for i, e := range again {
		again[i].Come, again[i].Go = slices.Clone(e.Come), slices.Clone(e.Go)
	}
	for i, a := range all {
		for j, b := range again {
			want(t, fmt.Sprint(a, " and ", b), edit.Same(a, b), i == j)
		}
	}
	want(t, "nil and empty lists", edit.Same(edit.Edit{}, edit.Edit{Come: []edit.At{}, Go: []edit.Gone{}}), true)
}

// TestNames: P12.2, there and back.
func TestNames(t *testing.T) {
	for _, kind := range []string{"t", "l", "m", "", "-", "t-", "t-1", "kind", "\x00\xff", "7"} {
		for _, n := range []uint64{0, 1, 7, 9, 10, 12, 99, 100, 1 << 32, 1 << 63, math.MaxUint64 - 1, math.MaxUint64} {
			name := edit.Name(kind, n)
			same(t, "Name", name, fmt.Sprintf("%s-%d", kind, n))
			back, ok := edit.Number(kind, name)
			want(t, name, back, n)
			want(t, name, ok, true)
		}
	}
	same(t, "the chapter's", edit.Name("t", 7), "t-7")
}

// TestNoNames: P12.2, 0 and false.
func TestNoNames(t *testing.T) {
	for _, c := range [][2]string{
		{"t", ""}, {"t", "t"}, {"t", "t-"}, {"t", "-"}, {"t", "7"}, {"t", "-7"}, {"t", "t7"}, {"t", "t_7"}, {"t", "t--7"}, {"t", "t-+7"},
		{"t", "t-07"}, {"t", "t-00"}, {"t", "t-012"}, {"t", "t-000000000000000000000000000001"}, {"t", "t-1_0"}, {"t", "t-0x7"}, {"t", "t-a"}, {"t", "t-7a"}, {"t", "t-a7"},
		{"t", "t- 7"}, {"t", "t-7 "}, {"t", " t-7"}, {"t", "t-7\n"}, {"t", "t-7\x00"}, {"t", "t-7.0"}, {"t", "t-1e3"}, {"t", "t-\xb2"}, {"t", "t-\u0667"},
		{"t", "t-18446744073709551616"}, {"t", "t-18446744073709551620"}, {"t", "t-99999999999999999999"}, {"t", "t-36893488147419103233"}, {"t", "t-100000000000000000000"},
		{"t", "l-7"}, {"t", "T-7"}, {"t", "tt-7"}, {"tt", "t-7"}, {"t", "t-7-7"}, {"t-7", "t-7"}, {"t-", "t-7"}, {"", "7"}, {"", ""}, {"", "-"}, {"", "t-7"}, {"", "--7"}, {"-", "-7"},
		{"current", "current"}, {"t", x(3000)}, {"t", "t-" + strings.Repeat("9", 3000)}, {"t", "t-" + strings.Repeat("0", 3000)},
	} {
		n, ok := edit.Number(c[0], c[1])
		want(t, fmt.Sprintf("Number(%q, %.40q)", c[0], c[1]), ok, false)
		want(t, fmt.Sprintf("Number(%q, %.40q)", c[0], c[1]), n, 0)
	}
}

// TestNumberIsOfItsName: P12.2, of all texts of up to four bytes out of seven those are names that Name answers.
func TestNumberIsOfItsName(t *testing.T) {
	l := []string{""}
	for i := 0; len(l[i]) < 4; i++ {
		for _, b := range []string{"t", "-", "+", "0", "1", "9", "_"} {
			l = append(l, l[i]+b)
		}
	}
	for _, kind := range []string{"t", "", "-", "0", "t-"} {
		names := map[string]uint64{}
		for n := range uint64(10000) {
			names[edit.Name(kind, n)] = n
		}
		for _, s := range l {
			n, ok := edit.Number(kind, s)
			wanted, is := names[s]
			if ok != is || n != wanted {
				t.Errorf("Number(%q, %q): %d, %v, wanted %d, %v", kind, s, n, ok, wanted, is)
			}
		}
	}
}

// TestMemory: what is handed in stays, spare room included; answers share none.
func TestMemory(t *testing.T) {
	a, g := []edit.At{at(0, 1, "a", "b"), at(1, 2, "c", "d"), at(9, 9, "spare", "room")}, []edit.Gone{{Number: 1}, {Level: 9, Number: 9}}
	e := edit.Edit{Come: a[:2], Go: g[:1]}
	keptA, keptG := slices.Clone(a), slices.Clone(g)
	s, _ := e.Bytes()
	e.Check()
	edit.Same(e, e)
	want(t, "the lists stay", slices.Equal(a, keptA) && slices.Equal(g, keptG), true)
	p, _ := edit.Parse(s)
	q, _ := edit.Parse(s)
	p.Come[0].Level, p.Go[0].Level = 3, 3
	_, _ = append(p.Come, at(3, 3, "z", "z")), append(p.Go, edit.Gone{Level: 3})
	want(t, "two answers", edit.Same(q, e), true)
}

// within: does a text stand in the memory of another one?
func within(s, whole string) bool {
	at, from := uintptr(unsafe.Pointer(unsafe.StringData(s))), uintptr(unsafe.Pointer(unsafe.StringData(whole)))
	return len(s) > 0 && at >= from && at < from+uintptr(len(whole))
}

// TestTextsOfTheirOwn: the texts of an answer, too, are new memory.
func TestTextsOfTheirOwn(t *testing.T) {
	s, _ := come(at(0, 1, "least", "most")).Bytes()
	p, _ := edit.Parse(s)
	f := p.Come[0].File
	want(t, "a file's", within(f.Least, s) || within(f.Most, s), false)
}
