package manifest_test

import (
	"math"
	"slices"
	"testing"
	"unsafe"

	"bourse/api"
	"bourse/edit"
	"bourse/manifest"
)

// TestNumbers: P14.1, what an edit tells of the three numbers, 0 for nothing, the last one told for good.
func TestNumbers(t *testing.T) {
	const most = math.MaxUint64
	of := func(log, next, seq uint64) manifest.State { return manifest.State{Log: log, Next: next, Seq: seq} }
	for _, c := range []struct{ s, told, want manifest.State }{
		{of(0, 0, 0), of(0, 0, 0), of(0, 0, 0)},
		{of(0, 0, 0), of(1, 2, 3), of(1, 2, 3)},
		{of(1, 2, 3), of(0, 0, 0), of(1, 2, 3)},
		{of(1, 2, 3), of(7, 0, 0), of(7, 2, 3)},
		{of(1, 2, 3), of(0, 7, 0), of(1, 7, 3)},
		{of(1, 2, 3), of(0, 0, 7), of(1, 2, 7)},
		{of(1, 2, 3), of(7, 8, 0), of(7, 8, 3)},
		{of(1, 2, 3), of(4, 5, 6), of(4, 5, 6)},
		{of(4, 5, 6), of(1, 2, 3), of(1, 2, 3)}, // lower ones, too
		{of(4, 5, 6), of(4, 5, 6), of(4, 5, 6)},
		{of(most, most, most), of(1, 0, 1), of(1, most, 1)},
		{of(1, 2, 3), of(most, most-1, 1<<63), of(most, most-1, 1<<63)},
	} {
		got, err := c.s.Then(edit.Edit{Log: c.told.Log, Next: c.told.Next, Seq: c.told.Seq})
		want(t, "Then", err, api.OK)
		state(t, "the numbers", got, c.want)
	}
}

// TestThen: P14.1, layer 13's Apply beside the numbers; the state itself stays.
func TestThen(t *testing.T) {
	s := some()
	got, err := s.Then(edit.Edit{Seq: 80, Come: append(come(0, file(11, "c", "d")), come(1, file(10, "a", "f"))...), Go: append(gone(1, 7, 4), gone(3, 1)...)})
	want(t, "Then", err, api.OK)
	wanted := some()
	wanted.Seq = 80
	wanted.Version.Levels[0] = []edit.File{file(11, "c", "d"), file(9, "a", "z"), file(8, "b", "y")}
	wanted.Version.Levels[1] = []edit.File{file(10, "a", "f")}
	wanted.Version.Levels[3] = []edit.File{file(2, "y", "y")}
	state(t, "behind it", got, wanted)
	state(t, "it stays", s, some())

	got, err = s.Then(edit.Edit{})
	want(t, "Then of nothing", err, api.OK)
	state(t, "behind nothing", got, s)
}

// TestThenErrors: P14.1, layer 13's errors, and nothing beside one.
func TestThenErrors(t *testing.T) {
	for _, c := range refusals() {
		s := some()
		got, err := s.Then(c.e)
		want(t, c.what, err, c.want)
		state(t, c.what+": beside the error", got, manifest.State{})
		state(t, c.what+": it stays", s, some())
	}
	for _, v := range wrong() {
		got, err := manifest.State{Version: v, Log: 1}.Then(edit.Edit{Log: 2})
		want(t, "a wrong version", err, api.ErrBroken)
		state(t, "a wrong version", got, manifest.State{})
	}
}

// TestEdit: P14.1, all of it, and nothing goes.
func TestEdit(t *testing.T) {
	e := some().Edit()
	want(t, "Log", e.Log, 5)
	want(t, "Next", e.Next, 10)
	want(t, "Seq", e.Seq, 77)
	want(t, "gone", len(e.Go), 0)
	list(t, "come", e.Come, slices.Concat(come(0, file(9, "a", "z"), file(8, "b", "y")), come(1, file(4, "b", "c"), file(7, "d", "e")),
		come(2, file(3, "\x00", "\xff")), come(3, file(1, "a", x(200)), file(2, "y", "y")))...)
	want(t, "of nothing", edit.Same(manifest.State{}.Edit(), edit.Edit{}), true)
	want(t, "of one number", edit.Same(manifest.State{Next: 3}.Edit(), edit.Edit{Next: 3}), true)
	state(t, "behind all of it", then(t, manifest.State{}, e), some())
	for _, v := range wrong() {
		list(t, "a wrong version's files", manifest.State{Version: v}.Edit().Come, v.Files().Come...)
	}
}

// spare: a list with a file behind its end.
func spare(l []edit.File) []edit.File { return append(l, file(99, "spare", "room"))[:len(l)] }

// spoil: a state's files become others, spare room included.
func spoil(s manifest.State) {
	for _, l := range s.Version.Levels {
		clear(l[:cap(l)])
	}
}

// TestMemory: what is handed in stays, and isn't kept; answers share none.
func TestMemory(t *testing.T) {
	in := some()
	for level := range in.Version.Levels {
		in.Version.Levels[level] = spare(in.Version.Levels[level])
	}
	d := fresh(t)
	m := made(t, d, 1, in)
	comes, goes := append(come(0, file(20, "k", "l")), come(3, file(99, "spare", "room"))...), append(gone(1, 4), gone(9, 9)...)
	e := edit.Edit{Come: comes[:1], Go: goes[:1]}
	first, second := then(t, in, e), then(t, in, e)
	wanted := some()
	wanted.Version.Levels[0] = []edit.File{file(20, "k", "l"), file(9, "a", "z"), file(8, "b", "y")}
	wanted.Version.Levels[1] = []edit.File{file(7, "d", "e")}
	want(t, "Add", m.Add(e), api.OK)
	list(t, "what comes, behind it", comes, edit.At{Level: 0, File: file(20, "k", "l")}, edit.At{Level: 3, File: file(99, "spare", "room")})
	list(t, "what goes, behind it", goes, edit.Gone{Level: 1, Number: 4}, edit.Gone{Level: 9, Number: 9})
	state(t, "what is handed in", in, some())
	for _, l := range in.Version.Levels {
		want(t, "its spare room", l[:len(l)+1][len(l)], file(99, "spare", "room"))
	}

	clear(comes)
	clear(goes)
	told := in.Edit()
	clear(told.Come)
	spoil(first)
	state(t, "the other answer", second, wanted)
	state(t, "what is handed in, behind changes of answers", in, some())
	spoil(in)
	state(t, "the manifest's", m.State(), wanted)
	spoil(m.State())
	state(t, "the manifest's, behind a change of an answer", m.State(), wanted)
	_, s, _ := manifest.Load(d)
	spoil(s)
	loaded(t, "anew", d, "m-1", wanted)
}

// TestTexts: a key isn't kept as it is handed in, nor handed out twice; nor is a name.
func TestTexts(t *testing.T) {
	key := []byte("abc")
	loose := unsafe.String(&key[0], 3)
	d := fresh(t)
	m := made(t, d, 1, manifest.State{Version: of([]edit.File{file(1, loose, loose)})})
	done(t, m.Add(edit.Edit{Come: come(1, file(2, loose, loose))}))
	copy(key, "zzz")
	state(t, "kept", m.State(), manifest.State{Version: of([]edit.File{file(1, "abc", "abc")}, []edit.File{file(2, "abc", "abc")})})
	seen := map[*byte]bool{}
	for range 2 {
		s := m.State()
		for _, k := range []string{s.Version.Levels[0][0].Least, s.Version.Levels[1][0].Most, m.Name(), s.Edit().Come[0].File.Least} {
			want(t, "shared", seen[unsafe.StringData(k)], false)
			seen[unsafe.StringData(k)] = true
		}
	}
}
