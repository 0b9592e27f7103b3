package compact_test

import (
	"fmt"
	"math"
	"slices"
	"strings"
	"testing"

	"bourse/api"
	"bourse/compact"
	"bourse/disk"
	"bourse/edit"
	"bourse/store"
	"bourse/version"
)

// most: up to where is counted.
const most = 1 << 53

// want: a test fails, if something is another thing than was wanted.
func want[T comparable](t *testing.T, what string, got, wanted T) {
	t.Helper()
	if got != wanted {
		t.Errorf("%s: %v, wanted %v", what, got, wanted)
	}
}

// done: none had an error.
func done(t *testing.T, l ...api.Errno) {
	t.Helper()
	for i, e := range l {
		if e != api.OK {
			t.Fatalf("the call of place %d: %v", i, e)
		}
	}
}

// sized: files of these sizes, whose keys and numbers nobody asks for.
func sized(sizes ...uint64) []edit.File {
	var l []edit.File
	for i, n := range sizes {
		l = append(l, edit.File{Number: uint64(i + 1), Size: n, Count: 1, Least: fmt.Sprint(i), Most: fmt.Sprint(i)})
	}
	return l
}

// levels: a version of these.
func levels(l ...[]edit.File) version.Version {
	var v version.Version
	copy(v.Levels[:], l)
	return v
}

// TestScore: P18.1, what a level has, and what the rule lets it have, each up to 2^53.
func TestScore(t *testing.T) {
	v := levels(sized(7, 8, 9), sized(10, 20), sized(30), sized(40, 50))
	r := compact.Rules{Files: 4, Bytes: [2]uint64{100, 200}}
	for level, wanted := range map[int]complex128{0: 3 + 4i, 1: 30 + 100i, 2: 30 + 200i, 3: 0, 4: 0, -1: 0, math.MinInt: 0, math.MaxInt: 0} {
		want(t, fmt.Sprint("the level ", level), r.Score(v, level), wanted)
	}
	for level := -1; level < 5; level++ {
		want(t, "of nothing", compact.Rules{}.Score(version.Version{}, level), 0)
	}
	for files, wanted := range map[int]float64{0: 0, 1: 1, -1: 0, math.MinInt: 0, most - 1: most - 1, most: most, most + 1: most, math.MaxInt: most} {
		want(t, fmt.Sprint("so many files: ", files), compact.Rules{Files: files}.Score(v, 0), complex(3, wanted))
	}
	for bytes, wanted := range map[uint64]float64{0: 0, 1: 1, most - 1: most - 1, most: most, most + 1: most, 1 << 63: most, math.MaxUint64: most} {
		what := fmt.Sprint("so many bytes: ", bytes)
		want(t, what, compact.Rules{Bytes: [2]uint64{bytes, 5}}.Score(v, 1), complex(30, wanted))
		want(t, what, compact.Rules{Bytes: [2]uint64{5, bytes}}.Score(v, 2), complex(30, wanted))
		for level := 1; level < 3; level++ {
			var v version.Version
			v.Levels[level] = sized(bytes)
			want(t, what+" are there", r.Score(v, level), complex(wanted, float64(level*100)))
		}
	}
	// What files have together doesn't go round.
	for _, sizes := range [][]uint64{{most - 1, 1}, {most, most}, {1 << 63, 1 << 63}, {math.MaxUint64, 1}, {math.MaxUint64, math.MaxUint64, 2}, {1, math.MaxUint64}} {
		want(t, fmt.Sprint(sizes), r.Score(levels(nil, sized(sizes...)), 1), complex(most, 100))
		want(t, fmt.Sprint(sizes), r.Score(levels(nil, nil, sized(sizes...)), 2), complex(most, 200))
	}
	want(t, "just below", r.Score(levels(nil, sized(most-3, 1, 1)), 1), complex(most-1, 100))
}

// TestDue: P18.1, the least level that has more than it may; of 0, or Files below 0, never.
func TestDue(t *testing.T) {
	v := levels(sized(7, 8, 9), sized(10, 20), sized(40), sized(1000))
	for _, x := range []struct {
		r     compact.Rules
		level int
		due   bool
	}{
		{compact.Rules{}, 0, false},
		{compact.Rules{Files: 1}, 0, true},
		{compact.Rules{Files: 2}, 0, true},
		{compact.Rules{Files: 3}, 0, false},
		{compact.Rules{Files: 4}, 0, false},
		{compact.Rules{Files: -1}, 0, false},
		{compact.Rules{Files: math.MinInt}, 0, false},
		{compact.Rules{Files: math.MaxInt}, 0, false},
		{compact.Rules{Bytes: [2]uint64{1, 1}}, 1, true},
		{compact.Rules{Bytes: [2]uint64{29, 1}}, 1, true},
		{compact.Rules{Bytes: [2]uint64{30, 1}}, 2, true},
		{compact.Rules{Bytes: [2]uint64{0, 39}}, 2, true},
		{compact.Rules{Bytes: [2]uint64{0, 40}}, 0, false},
		{compact.Rules{Bytes: [2]uint64{30, 40}}, 0, false},
		{compact.Rules{Files: 2, Bytes: [2]uint64{1, 1}}, 0, true},
		{compact.Rules{Files: 3, Bytes: [2]uint64{1, 1}}, 1, true},
		{compact.Rules{Files: -5, Bytes: [2]uint64{29, 1}}, 1, true},
		{compact.Rules{Files: 3, Bytes: [2]uint64{30, 39}}, 2, true},
		{compact.Rules{Files: 3, Bytes: [2]uint64{math.MaxUint64, 39}}, 2, true},
	} {
		level, due := x.r.Due(v)
		want(t, fmt.Sprintf("%v: due", x.r), due, x.due)
		want(t, fmt.Sprintf("%v: the level", x.r), level, x.level)
		level, due = x.r.Due(version.Version{})
		want(t, "of no files", level == 0 && !due, true)
	}
	// Both are counted up to 2^53.
	for has, wanted := range map[uint64]bool{most - 1: false, most: true, most + 1: true, math.MaxUint64: true} {
		_, due := compact.Rules{Bytes: [2]uint64{most - 1, 0}}.Due(levels(nil, sized(has)))
		want(t, fmt.Sprint(has, " are more than 2^53 less one"), due, wanted)
		_, due = compact.Rules{Bytes: [2]uint64{most, 0}}.Due(levels(nil, sized(has)))
		want(t, fmt.Sprint(has, " are more than 2^53"), due, false)
	}
	level, due := compact.Rules{Bytes: [2]uint64{5, 5}}.Due(levels(nil, nil, sized(1<<63, 1<<63)))
	want(t, "2^64", level == 2 && due, true)
}

// TestAmplify: P18.1, how many bytes each level's files have, modulo 2^64.
func TestAmplify(t *testing.T) {
	want(t, "nothing", compact.Amplify(version.Version{}), [api.Levels]uint64{})
	want(t, "some", compact.Amplify(levels(sized(7, 8, 9), sized(10, 20), nil, sized(40, math.MaxUint64))), [api.Levels]uint64{24, 30, 0, 39})
}

func put(key, value string) api.Change {
	return api.Change{Kind: api.Put, Key: key, Value: value}
}

// begun: a store, of whose tables all are on level 0: so many, each with some of so many keys.
func begun(t *testing.T, tables, keys int) (*disk.Disk, *store.Store) {
	t.Helper()
	d, _ := disk.New(1 << 22)
	s, e := store.Open(d, store.Options{Block: 100, Table: 60})
	done(t, e)
	for i := range tables {
		var l []api.Change
		for k := range 5 {
			key := fmt.Sprintf("%03d", (i*5+k*3)%keys)
			if (i+k)%4 == 0 {
				l = append(l, api.Change{Kind: api.Delete, Key: key})
			} else {
				l = append(l, put(key, strings.Repeat("v", i%7)))
			}
		}
		done(t, s.Write(l...), s.Flush())
		if i == tables/2 {
			want(t, "Snap", s.Snap(), 1)
		}
	}
	done(t, s.Write(put("in the memo", "1")))
	return d, s
}

// seen: all that a store sees at its last number, and at its snapshot's.
func seen(t *testing.T, s *store.Store) string {
	t.Helper()
	at, e := s.At(1)
	done(t, e)
	text := ""
	for _, at := range []uint64{s.Seq(), at} {
		up := slices.Collect(s.Range("", "", at))
		down := slices.Collect(s.Down("", "", at))
		slices.Reverse(down)
		want(t, "both ways", slices.Equal(up, down), true)
		for _, p := range up {
			v, ok := s.Get(p.Key, at)
			want(t, "Get", v == p.Value && ok, true)
		}
		text += fmt.Sprint(up)
	}
	return text
}

// TestRun: P18.2, Compacts in order; ErrNone is passed over; how many were OK.
func TestRun(t *testing.T) {
	d, s := begun(t, 6, 30)
	_, other := begun(t, 6, 30)
	before := seen(t, s)
	n, e := compact.Run(s, nil)
	want(t, "nothing", n == 0 && e == api.OK, true)
	n, e = compact.Run(s, []compact.Step{{Level: 1}, {Level: 3}, {Level: -1}, {Level: 2, Choice: 5}, {Level: math.MaxInt}})
	want(t, "nothing there", n == 0 && e == api.OK, true)
	steps := []compact.Step{{Level: 2}, {Level: 0, Choice: 3}, {Level: 0, Choice: -1}, {Level: 0}, {Level: 7}, {Level: 1, Choice: 1}, {Level: 1, Choice: -2}, {Level: 2, Choice: 1}, {Level: 3}, {Level: 2}}
	wanted := 0
	for _, x := range steps {
		switch e := other.Compact(x.Level, x.Choice); e {
		case api.OK:
			wanted++
		case api.ErrNone:
		default:
			t.Fatal(e)
		}
	}
	n, e = compact.Run(s, slices.Clone(steps))
	want(t, "how many", n, wanted)
	want(t, "the error", e, api.OK)
	want(t, "some were OK, some not", n > 3 && n < len(steps), true)
	want(t, "the version", version.Same(s.Version(), other.Version()), true)
	want(t, "what is seen", seen(t, s), before)

	d, s = begun(t, 6, 30)
	all := s.Version().Levels[0]
	want(t, "all overlap", len(all), 6)
	d.Fault(2)
	n, e = compact.Run(s, []compact.Step{{Level: 1}, {Level: 0}, {Level: 0}})
	want(t, "an error", n == 0 && e == api.ErrIO, true)
	want(t, "what is seen behind an error", seen(t, s), before)
	was := d.Steps()
	n, e = compact.Run(s, []compact.Step{{Level: 0}, {Level: 0}})
	want(t, "it is closed", n == 0 && e == api.ErrReadOnly, true)
	want(t, "steps", d.Steps(), was)
	n, e = compact.Run(s, nil)
	want(t, "it is closed, nothing", n == 0 && e == api.OK, true)
}

// behind: how many steps of the disk are done behind each of so many calls, till one isn't OK.
func behind(d *disk.Disk, do func(i int) api.Errno) []int {
	var l []int
	before := d.Steps()
	for i := 0; do(i) == api.OK; i++ {
		l = append(l, d.Steps()-before)
	}
	return l
}

// TestRunError: P18.2, how many were OK ahead of an error, behind which nothing is done.
func TestRunError(t *testing.T) {
	l := []compact.Step{{Level: 0}, {Level: 1}, {Level: 1}, {Level: 2}}
	d, s := begun(t, 4, 40)
	steps := behind(d, func(i int) api.Errno {
		if i == len(l) {
			return api.ErrNone
		}
		return s.Compact(l[i].Level, l[i].Choice)
	})
	want(t, "all are OK", len(steps), len(l))
	for fault := range steps[len(l)-1] + 1 {
		d, s := begun(t, 4, 40)
		before, was := seen(t, s), d.Steps()
		d.Fault(fault)
		n, e := compact.Run(s, slices.Insert(slices.Clone(l), 2, compact.Step{Level: 3}))
		what := fmt.Sprint("a fault behind ", fault)
		wanted := len(slices.DeleteFunc(slices.Clone(steps), func(n int) bool { return n > fault }))
		want(t, what, n, wanted)
		want(t, what+": the error", e == api.ErrIO, wanted < len(l))
		want(t, what+": ReadOnly", s.ReadOnly(), wanted < len(l))
		want(t, what+": steps", d.Steps()-was, fault)
		want(t, what+": what is seen", seen(t, s), before)
	}
}

// TestSettle: P18.2, P18.3, as long as a level is due, Compacts of it by the choice 0; what is seen stays; no level is due then.
func TestSettle(t *testing.T) {
	for _, r := range []compact.Rules{
		{},
		{Files: 1},
		{Files: 4},
		{Files: 100},
		{Files: -1, Bytes: [2]uint64{1, 1}},
		{Files: 1, Bytes: [2]uint64{1, 1}},
		{Files: 1, Bytes: [2]uint64{1, 0}},
		{Files: 2, Bytes: [2]uint64{300, 500}},
		{Files: 1, Bytes: [2]uint64{2000, 1}},
		{Files: 1, Bytes: [2]uint64{math.MaxUint64, math.MaxUint64}},
	} {
		what := fmt.Sprintf("%+v", r)
		d, s := begun(t, 12, 60)
		_, other := begun(t, 12, 60)
		before := seen(t, s)
		wanted := 0
		for {
			level, due := r.Due(other.Version())
			if !due {
				break
			}
			done(t, other.Compact(level, 0))
			wanted++
		}
		left := wanted
		for _, none := range []int{0, -1, math.MinInt} {
			steps := d.Steps()
			n, e := r.Settle(s, none)
			want(t, what+": no times", n == 0 && e == api.OK && d.Steps() == steps, true)
		}
		if wanted > 1 {
			n, e := r.Settle(s, wanted-1)
			want(t, what+": not enough times", n == wanted-1 && e == api.OK, true)
			_, due := r.Due(s.Version())
			want(t, what+": due yet", due, true)
			want(t, what+": what is seen between", seen(t, s), before)
			n, e = r.Settle(s, 1)
			want(t, what+": once more", n == 1 && e == api.OK, true)
			left = 0
		}
		n, e := r.Settle(s, math.MaxInt)
		want(t, what+": enough times", n, left)
		want(t, what+": the error", e, api.OK)
		_, due := r.Due(s.Version())
		want(t, what+": due", due, false)
		want(t, what+": the version", version.Same(s.Version(), other.Version()), true)
		want(t, what+": what is seen", seen(t, s), before)
		was := d.Steps()
		n, e = r.Settle(s, 5)
		want(t, what+": settled", n == 0 && e == api.OK && d.Steps() == was, true)
	}
}

// TestSettleAtOnce: P18.2, as many times as it takes, in one call; just as many are enough.
func TestSettleAtOnce(t *testing.T) {
	r := compact.Rules{Files: 1, Bytes: [2]uint64{1, 1}}
	_, s := begun(t, 8, 50)
	n, e := r.Settle(s, 1000)
	_, due := r.Due(s.Version())
	want(t, "at once", n > 5 && e == api.OK && !due, true)
	_, s = begun(t, 8, 50)
	k, e := r.Settle(s, n)
	_, due = r.Due(s.Version())
	want(t, "just enough", k == n && e == api.OK && !due, true)
}

// TestSettleErrors: P18.2, how many were OK ahead of the first error.
func TestSettleErrors(t *testing.T) {
	r := compact.Rules{Files: 1, Bytes: [2]uint64{1, 1}}
	d, s := begun(t, 5, 40)
	steps := behind(d, func(int) api.Errno {
		level, due := r.Due(s.Version())
		if !due {
			return api.ErrNone
		}
		return s.Compact(level, 0)
	})
	want(t, "all", len(steps) > 3, true)
	for fault := range steps[len(steps)-1] + 1 {
		d, s := begun(t, 5, 40)
		before, was := seen(t, s), d.Steps()
		d.Fault(fault)
		n, e := r.Settle(s, math.MaxInt)
		what := fmt.Sprint("a fault behind ", fault)
		wanted := len(slices.DeleteFunc(slices.Clone(steps), func(n int) bool { return n > fault }))
		want(t, what, n, wanted)
		want(t, what+": the error", e == api.ErrIO, wanted < len(steps))
		want(t, what+": what is seen", seen(t, s), before)
		want(t, what+": steps", d.Steps()-was, fault)
		if _, due := r.Due(s.Version()); due {
			n, e = r.Settle(s, 3)
			want(t, what+": it is closed", n == 0 && e == api.ErrReadOnly, true)
		}
		n, e = compact.Rules{}.Settle(s, 3)
		want(t, what+": nothing is due", n == 0 && e == api.OK, true)
		want(t, what+": steps at last", d.Steps()-was, fault)
	}
}

// TestNil: P18.2, of a nil store ErrNil.
func TestNil(t *testing.T) {
	for _, l := range [][]compact.Step{nil, {{}}, {{Level: 9}}} {
		n, e := compact.Run(nil, l)
		want(t, "Run", n == 0 && e == api.ErrNil, true)
	}
	for _, most := range []int{-1, 0, 1} {
		for _, r := range []compact.Rules{{}, {Files: 1}} {
			n, e := r.Settle(nil, most)
			want(t, "Settle", n == 0 && e == api.ErrNil, true)
		}
	}
}

// TestMemory: what is handed in stays.
func TestMemory(t *testing.T) {
	_, s := begun(t, 3, 30)
	l := []compact.Step{{Level: 0}, {Level: 1}, {Level: 2, Choice: 77}}
	n, e := compact.Run(s, l[:2])
	want(t, "Run", n == 2 && e == api.OK, true)
	want(t, "the steps", slices.Equal(l, []compact.Step{{Level: 0}, {Level: 1}, {Level: 2, Choice: 77}}), true)
	v := levels(sized(1, 2), sized(3, 4))
	w := levels(sized(1, 2), sized(3, 4))
	compact.Amplify(v)
	r := compact.Rules{Files: 1, Bytes: [2]uint64{1, 1}}
	r.Due(v)
	r.Score(v, 1)
	want(t, "the version", version.Same(v, w), true)
}
