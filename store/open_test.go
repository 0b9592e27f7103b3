package store_test

import (
	"fmt"
	"math"
	"slices"
	"testing"

	"bourse/api"
	"bourse/batch"
	"bourse/disk"
	"bourse/edit"
	"bourse/manifest"
	"bourse/memo"
	"bourse/store"
	"bourse/table"
	"bourse/wal"
)

// laid: a log of batches.
func laid(t *testing.T, d *disk.Disk, number uint64, l ...batch.Batch) {
	t.Helper()
	w, e := wal.Create(d, number)
	want(t, "the log", e, api.OK)
	for _, b := range l {
		done(t, w.Add(b))
	}
}

func of(seq uint64, l ...api.Change) batch.Batch { return batch.Batch{Seq: seq, Changes: l} }

// tabled: a table in a file, of these entries.
func tabled(t *testing.T, d *disk.Disk, number uint64, l ...api.Entry) edit.File {
	t.Helper()
	data, e := table.Build(l, 100)
	want(t, "Build", e, api.OK)
	file(t, d, edit.Name("t", number), data)
	return edit.File{Number: number, Size: uint64(len(data)), Count: uint64(len(l)), Least: l[0].Key, Most: l[len(l)-1].Key}
}

// told: a manifest that counts.
func told(t *testing.T, d *disk.Disk, number uint64, s manifest.State, l ...edit.At) {
	t.Helper()
	s, e := s.Then(edit.Edit{Come: l})
	want(t, "Then", e, api.OK)
	_, e = manifest.Create(d, number, s)
	want(t, "Create", e, api.OK)
}

// TestOpenEmpty: P17.1, of a disk without a manifest nothing; a log and a manifest are begun.
func TestOpenEmpty(t *testing.T) {
	d := fresh(t)
	s := opened(t, d, store.Options{})
	holds(t, "nothing", s, nil)
	state := sound(t, "nothing", d, s)
	want(t, "files of the version", state.Version.Count(), 0)
	list(t, "files", d.List(), "current", "l-1", "m-2")
	list(t, "its own", s.Files(), "l-1", "m-2")
	want(t, "the next number", state.Next, 3)
	want(t, "steps", d.Steps(), 1+7)
	want(t, "the log", read(t, d, "l-1"), "")

	steps := d.Steps()
	s = opened(t, d, store.Options{})
	holds(t, "nothing, anew", s, nil)
	state = sound(t, "nothing, anew", d, s)
	list(t, "its own, anew", s.Files(), "l-3", "m-4")
	want(t, "files of the version, anew", state.Version.Count(), 0)
	want(t, "steps, anew", d.Steps()-steps, 1+7+2)
}

// TestOpenAnew: P17.1, what the log tells becomes a table of level 0.
func TestOpenAnew(t *testing.T) {
	d := fresh(t)
	s := opened(t, d, store.Options{})
	l := []api.Change{put("b", "1"), put("a", "2"), del("b"), put("c", x(4096)), put("b", "")}
	p := past{}
	for _, c := range l {
		done(t, s.Write(c))
		p = p.with(c)
	}
	sound(t, "ahead", d, s)
	steps := d.Steps()
	s = opened(t, d, store.Options{Block: 50})
	holds(t, "anew", s, p)
	state := sound(t, "anew", d, s)
	want(t, "steps", d.Steps()-steps, 3+1+7+2)
	want(t, "Seq", state.Seq, 5)
	list(t, "files", s.Files(), "l-4", "m-5", "t-3")
	want(t, "of level 0", len(state.Version.Levels[0]), 1)
	sorted := slices.Clone(p)
	slices.SortFunc(sorted, memo.Compare)
	list(t, "its entries", entries(t, d, 3), sorted...)
	data, _ := table.Build(sorted, 50)
	want(t, "its bytes", read(t, d, "t-3"), data)

	// What stands in tables isn't told again.
	for range 3 {
		s = opened(t, d, store.Options{})
		holds(t, "once more", s, p)
		want(t, "tables", sound(t, "once more", d, s).Version.Count(), 1)
	}
	done(t, s.Write(put("d", "3")))
	p = p.with(put("d", "3"))
	s = opened(t, d, store.Options{})
	holds(t, "one more", s, p)
	want(t, "one more table", len(sound(t, "one more", d, s).Version.Levels[0]), 2)
}

// TestOpenLogs: P17.1, what the logs from Log on tell, in the order of their numbers; what is told already is passed over.
func TestOpenLogs(t *testing.T) {
	a, b, c, e := put("a", "1"), put("b", "2"), put("c", "3"), put("a", "4")
	for _, x := range []struct {
		what   string
		state  manifest.State
		lay    func(d *disk.Disk)
		wanted []api.Change
	}{
		{"one", manifest.State{}, func(d *disk.Disk) { laid(t, d, 7, of(1, a, b), of(3, c)) }, []api.Change{a, b, c}},
		{"the number 0", manifest.State{}, func(d *disk.Disk) { laid(t, d, 0, of(1, a, b)) }, []api.Change{a, b}},
		{"9 ahead of 10", manifest.State{}, func(d *disk.Disk) { laid(t, d, 10, of(2, b), of(3, c)); laid(t, d, 9, of(1, a)) }, []api.Change{a, b, c}},
		{"three", manifest.State{}, func(d *disk.Disk) { laid(t, d, 1, of(1, a)); laid(t, d, 2, of(2, b, c)); laid(t, d, 3, of(4, e)) }, []api.Change{a, b, c, e}},
		{"an empty one between", manifest.State{}, func(d *disk.Disk) { laid(t, d, 1, of(1, a)); laid(t, d, 2); laid(t, d, 3, of(2, b)) }, []api.Change{a, b}},
		{"below Log", manifest.State{Log: 3}, func(d *disk.Disk) { laid(t, d, 2, of(1, c)); laid(t, d, 3, of(1, a)); laid(t, d, 4, of(2, b)) }, []api.Change{a, b}},
		{"all below Log", manifest.State{Log: 3}, func(d *disk.Disk) { laid(t, d, 2, of(1, c)) }, nil},
		{"twice the same", manifest.State{}, func(d *disk.Disk) { laid(t, d, 1, of(1, a), of(2, b)); laid(t, d, 2, of(1, c), of(2, c), of(3, e)) }, []api.Change{a, b, e}},
		{"without changes", manifest.State{}, func(d *disk.Disk) { laid(t, d, 1, of(0), of(1), of(1)) }, nil},
		{"without changes between", manifest.State{}, func(d *disk.Disk) { laid(t, d, 1, of(1, a), of(2), of(2, b), of(3)) }, []api.Change{a, b}},
		{"a part is told", manifest.State{}, func(d *disk.Disk) { laid(t, d, 1, of(1, a, b)); laid(t, d, 2, of(2, c, c, e)) }, []api.Change{a, b, c, e}},
		{"torn", manifest.State{}, func(d *disk.Disk) {
			laid(t, d, 1, of(1, a, b), of(3, c))
			s, _ := d.Read("l-1")
			file(t, d, "l-1", s[:len(s)-1])
		}, []api.Change{a, b}},
		{"turned in the midst", manifest.State{}, func(d *disk.Disk) {
			laid(t, d, 1, of(1, a), of(2, b), of(3, c))
			s, _ := d.Read("l-1")
			file(t, d, "l-1", s[:30]+"?"+s[31:])
		}, []api.Change{a}},
		{"no log at all", manifest.State{}, func(d *disk.Disk) { file(t, d, "l-1", x(600)) }, nil},
	} {
		for _, manifested := range []bool{false, true} {
			if !manifested && x.state.Log != 0 {
				continue
			}
			d := fresh(t)
			x.lay(d)
			if manifested {
				told(t, d, 5, x.state)
			}
			s := opened(t, d, store.Options{})
			holds(t, x.what, s, past{}.with(x.wanted...))
			want(t, x.what+": tables", len(sound(t, x.what, d, s).Version.Levels[0]), min(1, len(x.wanted)))
			done(t, s.Write(put("more", "")))
			holds(t, x.what+", anew", opened(t, d, store.Options{}), past{}.with(append(x.wanted, put("more", ""))...))
		}
	}
}

// TestOpenBehindTables: P17.1, logs go on behind what the manifest tells.
func TestOpenBehindTables(t *testing.T) {
	p := past{}.with(put("a", "1"), put("b", "2"), put("a", "3"), del("b"), put("c", "5"))
	d := fresh(t)
	upper := tabled(t, d, 4, p[2], p[3])
	lower := tabled(t, d, 3, p[0], p[1])
	told(t, d, 5, manifest.State{Log: 2, Next: 6, Seq: 4}, edit.At{Level: 0, File: upper}, edit.At{Level: 2, File: lower})
	laid(t, d, 2, of(3, put("x", ""), put("y", "")), of(5, put("c", "5")))
	s := opened(t, d, store.Options{})
	holds(t, "tables and a log", s, p)
	v := sound(t, "tables and a log", d, s).Version
	list(t, "numbers", v.Numbers(), 3, 4, 6)
	want(t, "level 0", len(v.Levels[0]), 2)
	list(t, "the new one", entries(t, d, 6), p[4])
}

// TestOpenBehindTheEnd: P17.1, behind a last number that is the greatest of all each batch is told already.
func TestOpenBehindTheEnd(t *testing.T) {
	d := fresh(t)
	told(t, d, 9, manifest.State{Seq: math.MaxUint64})
	laid(t, d, 1, of(5, put("a", "")), of(batch.Top, put("b", "")))
	s := opened(t, d, store.Options{})
	want(t, "Seq", s.Seq(), math.MaxUint64)
	want(t, "tables", s.Version().Count(), 0)
}

// TestOpenAnyTables: P17.4, the newest entry is seen, whichever level it stands on.
func TestOpenAnyTables(t *testing.T) {
	p := past{}.with(put("a", "1"), put("b", "2"), put("a", "3"), del("b"), put("c", "5"), put("c", "6"))
	for shift := range 4 {
		d := fresh(t)
		var files []edit.At
		for i, l := range [][]api.Entry{{p[0], p[4]}, {p[2]}, {p[1], p[5]}, {p[3]}} {
			files = append(files, edit.At{Level: (i + shift) % 4, File: tabled(t, d, uint64(10+i), l...)})
		}
		told(t, d, 9, manifest.State{Log: 2, Next: 20, Seq: 6}, files...)
		s := opened(t, d, store.Options{})
		for at := range p.seq() + 2 {
			sees(t, fmt.Sprint("shifted by ", shift), s, p, at)
		}
	}
}

// TestOpenLongLogs: P17.1, all that logs tell becomes a table, though a memo wouldn't take it.
func TestOpenLongLogs(t *testing.T) {
	d := fresh(t)
	w, e := wal.Create(d, 1)
	want(t, "Create", e, api.OK)
	n := uint64(1)
	for range 40 {
		var l []api.Change
		for range api.MaxBatch {
			l = append(l, put(fmt.Sprintf("%05d", n*7919%80001), ""))
			n++
		}
		done(t, w.Add(of(n-uint64(len(l)), l...)))
	}
	done(t, w.Add(of(n, put(x(86), "long"), put(x(200), "longer"))))
	s := opened(t, d, store.Options{Block: 4096})
	want(t, "Seq", s.Seq(), n+1)
	files := sound(t, "long", d, s).Version.Levels[0]
	want(t, "tables", len(files), 1)
	want(t, "entries", files[0].Count, n+1)
	v, ok := s.Get(x(200), s.Seq())
	want(t, "the longest key", v == "longer" && ok, true)
	list(t, "the last ones", slices.Collect(s.Range("x", "", s.Seq())), api.Pair{Key: x(86), Value: "long"}, api.Pair{Key: x(200), Value: "longer"})
}

// TestOpenBroken: P17.1, a table that isn't there, or is none; a batch whose number is too great; nothing is done then.
func TestOpenBroken(t *testing.T) {
	begun := func() *disk.Disk {
		d := fresh(t)
		s := opened(t, d, store.Options{Block: 40})
		done(t, s.Write(put("a", "1"), put("b", "2")), s.Flush(), s.Write(put("a", "3")), s.Flush(), s.Compact(0, 0), s.Write(put("c", "4")), s.Flush(), s.Write(del("a")))
		return d
	}
	fails := func(what string, d *disk.Disk, wanted api.Errno) {
		t.Helper()
		files, steps, used := d.List(), d.Steps(), d.Used()
		d.Fault(0)
		refuses(t, what, d, wanted)
		d.Fault(-1)
		list(t, what+": files", d.List(), files...)
		want(t, what+": steps", d.Steps(), steps)
		want(t, what+": used", d.Used(), used)
	}
	numbers := opened(t, begun(), store.Options{}).Version().Numbers()
	want(t, "tables", len(numbers), 4)
	for _, n := range numbers[:3] {
		name := edit.Name("t", n)
		d := begun()
		data := read(t, d, name)
		done(t, d.Delete(name))
		fails("no "+name, d, api.ErrBroken)
		for what, s := range map[string]string{"nothing": "", "not its end": data[:len(data)-1], "not its beginning": data[1:], "more": data + "\x00", "another one": read(t, d, "current")} {
			file(t, d, name, s)
			fails(name+" is "+what, d, api.ErrBroken)
		}
		for i := range len(data) {
			file(t, d, name, data[:i]+string([]byte{data[i] ^ 4})+data[i+1:])
			fails(fmt.Sprint(name, " turned at ", i), d, api.ErrBroken)
		}
		file(t, d, name, data)
		opened(t, d, store.Options{})
	}

	for what, lay := range map[string]func(d *disk.Disk){
		"behind nothing":            func(d *disk.Disk) { laid(t, d, 1, of(2, put("a", ""))) },
		"behind nothing, no change": func(d *disk.Disk) { laid(t, d, 1, of(2)) },
		"within a log":              func(d *disk.Disk) { laid(t, d, 1, of(1, put("a", "")), of(3, put("a", ""))) },
		"within a log, no change":   func(d *disk.Disk) { laid(t, d, 1, of(1, put("a", "")), of(3)) },
		"in the next one":           func(d *disk.Disk) { laid(t, d, 1, of(1, put("a", ""))); laid(t, d, 2, of(3, put("a", ""))) },
		"the greatest":              func(d *disk.Disk) { laid(t, d, 1, of(batch.Top, put("a", ""))) },
		"behind a manifest": func(d *disk.Disk) {
			told(t, d, 9, manifest.State{Seq: 5})
			laid(t, d, 1, of(5, put("a", "")), of(7, put("a", "")))
		},
	} {
		d := fresh(t)
		lay(d)
		fails("a number too great, "+what, d, api.ErrBroken)
	}
}

// TestOpenManifest: P17.1, layer 14's errors.
func TestOpenManifest(t *testing.T) {
	d := fresh(t)
	s := opened(t, d, store.Options{})
	done(t, s.Write(put("a", "1")))
	current := read(t, d, "current")
	for what, data := range map[string]string{"nothing": "", "turned": "?" + current[1:], "cut": current[:len(current)-1]} {
		file(t, d, "current", data)
		refuses(t, "current is "+what, d, api.ErrBroken)
	}
	file(t, d, "current", current)
	data := read(t, d, "m-2")
	file(t, d, "m-2", data[:10])
	refuses(t, "a manifest without an edit", d, api.ErrBroken)
	done(t, d.Delete("m-2"))
	refuses(t, "no manifest", d, api.ErrBroken)
	file(t, d, "m-2", data)
	holds(t, "as it was", opened(t, d, store.Options{}), past{}.with(put("a", "1")))
}

// TestOpenErrors: P17.1, the first error of layer 2, at each of its steps; opened again, all is there.
func TestOpenErrors(t *testing.T) {
	refuses(t, "no disk", nil, api.ErrNil)
	d := fresh(t)
	d.Fuse(0)
	refuses(t, "the power goes", d, api.ErrPower)
	refuses(t, "the power is gone", d, api.ErrPower)
	for _, wanted := range []api.Errno{api.ErrIO, api.ErrPower} {
		steps := 0
		for ; ; steps++ {
			d := fresh(t)
			s := opened(t, d, store.Options{})
			done(t, s.Write(put("a", "1")), s.Flush(), s.Write(put("b", "2")))
			p := past{}.with(put("a", "1"), put("b", "2"))
			file(t, d, "t-77", "left")
			if wanted == api.ErrIO {
				d.Fault(steps)
			} else {
				d.Fuse(steps)
			}
			what := fmt.Sprintf("%v at the step %d", wanted, steps)
			if s, e := store.Open(d, store.Options{}); e == api.OK {
				d.Fuse(-1)
				d.Fault(-1)
				sound(t, what, d, s)
				break
			} else {
				want(t, what, e, wanted)
				want(t, what+": the store", s == nil, true)
			}
			if wanted == api.ErrPower {
				d.Crash(nil)
			}
			s = opened(t, d, store.Options{})
			holds(t, what+", opened again", s, p)
			sound(t, what+", opened again", d, s)
		}
		want(t, "steps", steps, 1+3+1+7+2)
	}
}

// TestOpenWithoutRoom: P17.1, a disk that is full, or has as many files as it may; what an Open leaves behind doesn't grow.
func TestOpenWithoutRoom(t *testing.T) {
	d := fresh(t)
	s := opened(t, d, store.Options{})
	done(t, s.Write(put("a", x(500))))
	p := past{}.with(put("a", x(500)))
	used, files := d.Used(), len(d.List())
	for room := used; ; room++ {
		d.Room(room)
		if s, e := store.Open(d, store.Options{}); e == api.OK {
			want(t, "room that it needs", room > used+500 && room < used+800, true)
			holds(t, "with room", s, p)
			sound(t, "with room", d, s)
			break
		} else {
			want(t, "without room", e, api.ErrFull)
		}
		want(t, "files", len(d.List()) <= files+4, true)
	}

	d = fresh(t)
	s = opened(t, d, store.Options{})
	done(t, s.Write(put("a", "1")))
	p = past{}.with(put("a", "1"))
	for i := range api.MaxFiles - len(d.List()) {
		done(t, d.Create(fmt.Sprint("other-", i)))
	}
	for i := range 4 {
		for range 100 {
			refuses(t, fmt.Sprint("room for files: ", i), d, api.ErrMany)
		}
		done(t, d.Delete(fmt.Sprint("other-", i)))
	}
	s = opened(t, d, store.Options{})
	holds(t, "room for four files", s, p)
	want(t, "files", len(d.List()), api.MaxFiles-3)
}

// TestOpenSweeps: P17.1, files of the kinds t, l, m that neither is, nor the version has, are deleted; no others.
func TestOpenSweeps(t *testing.T) {
	d := fresh(t)
	s := opened(t, d, store.Options{})
	p := past{}.with(put("a", "1"), put("b", "2"))
	done(t, s.Write(put("a", "1")), s.Flush(), s.Write(put("b", "2")))
	stays := []string{"a", "current.new", "l", "l-", "l-01", "l-x", "ll-1", "m-", "m-1.", "n-5", "t-00", "t-18446744073709551616", "t5", "tt-5"}
	goes := []string{"l-0", "l-18446744073709551615", "l-6", "l-99", "m-0", "m-18446744073709551615", "m-3", "m-6", "t-0", "t-1", "t-18446744073709551615", "t-5", "t-6", "t-99"}
	for _, name := range append(goes, stays...) {
		file(t, d, name, "not wanted")
	}
	s = opened(t, d, store.Options{})
	holds(t, "among others", s, p)
	stays = slices.DeleteFunc(stays, func(name string) bool { return name == "current.new" })
	list(t, "files", d.List(), slices.Sorted(slices.Values(slices.Concat(stays, s.Files(), []string{"current"})))...)
}

// TestOpenNumbers: P17.1, numbers that are near their end, or that logs, manifests and tables have above the next one.
func TestOpenNumbers(t *testing.T) {
	p := past{}.with(put("a", "1"), put("b", "2"))
	goes := func(what string, d *disk.Disk) {
		t.Helper()
		s := opened(t, d, store.Options{})
		holds(t, what, s, p)
		done(t, s.Write(put("c", "3")), s.Flush(), s.Write(put("d", "4")))
		s = opened(t, d, store.Options{})
		holds(t, what+", anew", s, p.with(put("c", "3"), put("d", "4")))
		done(t, s.Compact(0, 0))
		holds(t, what+", together", s, p.with(put("c", "3"), put("d", "4")))
	}
	for _, n := range []uint64{0, 1, 2, 3, 4, 5, 6, math.MaxUint64} {
		for _, m := range []uint64{0, 1, 2, 3, 4, 5, math.MaxUint64} {
			for _, u := range []uint64{1, 2, 3, 4, 5, math.MaxUint64} {
				d := fresh(t)
				f := tabled(t, d, u, p[0])
				laid(t, d, n, of(2, put("b", "2")))
				told(t, d, m, manifest.State{Seq: 1}, edit.At{Level: 0, File: f})
				goes(fmt.Sprintf("l-%d, m-%d, t-%d", n, m, u), d)
			}
		}
	}
	for next, wanted := range map[uint64]api.Errno{math.MaxUint64: api.ErrRange, math.MaxUint64 - 1: api.ErrRange, math.MaxUint64 - 2: api.ErrRange, math.MaxUint64 - 3: api.OK} {
		d := fresh(t)
		laid(t, d, 1, of(1, put("a", "1"), put("b", "2")))
		told(t, d, 2, manifest.State{Next: next})
		s, e := store.Open(d, store.Options{})
		want(t, fmt.Sprint("the next number ", next), e, wanted)
		want(t, "the store", s == nil, e != api.OK)
		if s != nil {
			holds(t, "the last numbers", s, p)
			done(t, s.Write(put("c", "3")))
			want(t, "no numbers are left", s.Flush(), api.ErrRange)
			holds(t, "no numbers are left", s, p.with(put("c", "3")))
		}
	}
}
