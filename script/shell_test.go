package script_test

import (
	"fmt"
	"math"
	"slices"
	"testing"

	"bourse/api"
	"bourse/command"
	"bourse/disk"
	"bourse/engine"
	"bourse/script"
	"bourse/session"
	"bourse/store"
)

// started: a shell with so much room.
func started(t *testing.T, room int, o store.Options) *script.Shell {
	t.Helper()
	h, e := script.Start(room, o)
	if e != api.OK || h == nil {
		t.Fatalf("Start: %v", e)
	}
	return h
}

// lines: those of a text.
func lines(t *testing.T, s string) []script.Line {
	t.Helper()
	l, n, e := script.Parse(s)
	if e != api.OK {
		t.Fatalf("%q: %v in line %d", s, e, n)
	}
	return l
}

// does: a line's answer.
func does(t *testing.T, h *script.Shell, s string, reply engine.Reply, fault api.Errno) {
	t.Helper()
	r, e := h.Do(lines(t, s+"\n")[0])
	want(t, s+": the error", e, fault)
	if !engine.Same(r, reply) {
		t.Errorf("%s: %+v, wanted %+v", s, r, reply)
	}
}

// run: lines, each of which is done, and OK.
func run(t *testing.T, h *script.Shell, s string) {
	t.Helper()
	for _, l := range lines(t, s) {
		r, e := h.Do(l)
		want(t, fmt.Sprintf("%+v", l), e == api.OK && r.Err == api.OK, true)
	}
}

// content: all that a disk has, and how it stands.
func content(d *disk.Disk) string {
	s := fmt.Sprint(d.Steps(), d.Down(), d.Used())
	for _, name := range d.List() {
		data, e := d.Read(name)
		s += fmt.Sprintf("\n%s %d %v %x", name, d.Loose(name), e, data)
	}
	return s
}

// pairs: all that a market has.
func pairs(m *session.Market) []api.Pair { return slices.Collect(m.View().Range("", "")) }

// street: lines behind which there is something of everything.
const street = "deposit 1 1 500\ndeposit 2 2 50\nplace 1 1 1 5 4 0\nplace 2 2 1 7 3 4\nflush\nplace 2 2 1 9 8 0\nplace 1 1 1 7 1 0\ntick 1\n"

// TestStart: P31.2, a shell on a new disk, with this room and these options.
func TestStart(t *testing.T) {
	o := store.Options{Memo: 100, Block: 200, Table: 300, Heights: []int{1, 2}}
	h := started(t, 3000, o)
	o.Heights[0] = 9
	want(t, "the error", h.Err, api.OK)
	got := h.Market.Store().Options()
	want(t, "the options", got.Memo == 100 && got.Block == 200 && got.Table == 300 && slices.Equal(got.Heights, []int{1, 2}), true)
	want(t, "nothing", len(pairs(h.Market)) == 0 && !h.Market.Shut() && h.Market.Store().Seq() == 0, true)
	d, _ := disk.New(3000)
	_, e := session.Open(d, store.Options{Memo: 100, Block: 200, Table: 300, Heights: []int{1, 2}})
	want(t, "Open", e, api.OK)
	want(t, "the disk", content(h.Disk), content(d))
	want(t, "the room", h.Disk.Create("x"), api.OK)
	want(t, "all of it", h.Disk.Append("x", string(make([]byte, 3000-h.Disk.Used()))), api.OK)
	want(t, "no more", h.Disk.Append("x", "x"), api.ErrFull)
}

// TestStartErrors: P31.2, layer 2's error, layer 28's, and no shell.
func TestStartErrors(t *testing.T) {
	for _, room := range []int{-1, 1<<24 + 1, math.MinInt, math.MaxInt} {
		h, e := script.Start(room, store.Options{})
		want(t, fmt.Sprint("room for ", room), h == nil && e == api.ErrArg, true)
	}
	full := 0
	for room := range 300 {
		h, e := script.Start(room, store.Options{})
		d, _ := disk.New(room)
		m, wanted := session.Open(d, store.Options{})
		want(t, fmt.Sprint("room for ", room), e, wanted)
		want(t, fmt.Sprint("room for ", room, ": a shell"), h != nil, m != nil)
		if e == api.ErrFull {
			full++
		}
	}
	want(t, "both came", full > 0 && full < 300, true)
	h, e := script.Start(1<<24, store.Options{})
	want(t, "the greatest room", h != nil && e == api.OK, true)
}

// TestTwoShells: each has a disk of its own.
func TestTwoShells(t *testing.T) {
	a, b := started(t, 10000, store.Options{}), started(t, 10000, store.Options{})
	run(t, a, "deposit 1 1 5\n")
	does(t, a, "money 1", engine.Reply{Money: [2]api.Balance{{Free: 5}}}, api.OK)
	does(t, b, "money 1", engine.Reply{}, api.OK)
}

// TestOperations: P31.2, the market's reply, with its error in it.
func TestOperations(t *testing.T) {
	h := started(t, 1<<20, store.Options{})
	run(t, h, street)
	resting := api.Order{ID: 1, Account: 1, Side: 1, Price: 5, Size: 4, Left: 4, Rank: 1, State: api.Resting}
	does(t, h, "status 1", engine.Reply{Order: resting}, api.OK)
	does(t, h, "money 1", engine.Reply{Money: [2]api.Balance{{Free: 473, Held: 20}, {Free: 1}}}, api.OK)
	does(t, h, "status 9", engine.Reply{Err: api.ErrNone}, api.OK)
	does(t, h, "place 1 1 1 10000 5 0", engine.Reply{Err: api.ErrFunds}, api.OK)
	does(t, h, "place 1 3 1 10 5 0", engine.Reply{Err: api.ErrSide}, api.OK)
	does(t, h, "deposit 0 1 1", engine.Reply{Err: api.ErrArg}, api.OK)
	does(t, h, "deposit 1 1 -1", engine.Reply{Err: api.ErrSize}, api.OK)
	does(t, h, "tick 3", engine.Reply{Gone: []uint64{2}, N: 4}, api.OK)
	resting.State = api.Cancelled
	does(t, h, "cancel 1 1", engine.Reply{Order: resting}, api.OK)
	does(t, h, "money 2", engine.Reply{Money: [2]api.Balance{{Free: 7}, {Free: 41, Held: 8}}}, api.OK)
}

// TestPrintsError: P31.2, Print's error, and nothing is done, whatever stands.
func TestPrintsError(t *testing.T) {
	h := started(t, 1<<20, store.Options{})
	run(t, h, street)
	for range 2 {
		before, all := content(h.Disk), pairs(h.Market)
		for kind := range tells() {
			for _, field := range fields() {
				if slices.Contains(tells()[kind], field) && !isSmall(field) {
					continue
				}
				l := plain(kind)
				set(&l, field, 1<<31)
				r, e := h.Do(l)
				want(t, fmt.Sprintf("%+v", l), e, api.ErrForm)
				want(t, fmt.Sprintf("%+v: the reply", l), engine.Same(r, engine.Reply{}), true)
			}
			l := plain(kind)
			l.Op.Kind = kind%9 + 1
			r, e := h.Do(l)
			want(t, fmt.Sprintf("%+v", l), e, api.ErrForm)
			want(t, fmt.Sprintf("%+v: the reply", l), engine.Same(r, engine.Reply{}), true)
		}
		for _, kind := range []int{0, -1, 15, 256 + 10, least, greatest} {
			r, e := h.Do(script.Line{Kind: kind, Op: command.Op{Kind: 4, N: 1}, A: 1})
			want(t, fmt.Sprint("kind ", kind), e, api.ErrKind)
			want(t, fmt.Sprint("kind ", kind, ": the reply"), engine.Same(r, engine.Reply{}), true)
		}
		want(t, "the disk", content(h.Disk), before)
		list(t, "all", pairs(h.Market), all...)
		run(t, h, "deposit 3 1 1\n") // no fuse, and no fault, was set
		// The second time nothing can be opened: what can't be printed is told all the same.
		h.Disk.Room(0)
		does(t, h, "crash 0", engine.Reply{}, api.ErrFull)
		h.Disk.Room(1 << 20)
		if h.Err == api.OK {
			t.Fatal("it was opened")
		}
		_, e := h.Do(script.Line{Kind: 14, B: 1})
		want(t, "no further crash", e == api.ErrForm && h.Err == api.ErrFull, true)
		_, e = h.Do(script.Line{Kind: 15})
		want(t, "no such kind", e, api.ErrKind)
		does(t, h, "crash 0", engine.Reply{}, api.OK)
	}
}

// TestNil: P31.2, ErrNil, whatever the line.
func TestNil(t *testing.T) {
	var h *script.Shell
	for kind := range 16 {
		for _, l := range []script.Line{plain(kind), {Kind: kind}, {Kind: kind, A: 1, B: 1}} {
			r, e := h.Do(l)
			want(t, fmt.Sprintf("%+v", l), e, api.ErrNil)
			want(t, fmt.Sprintf("%+v: the reply", l), engine.Same(r, engine.Reply{}), true)
		}
	}
}

// TestFlush: P31.2, layer 17's error.
func TestFlush(t *testing.T) {
	h := started(t, 1<<20, store.Options{})
	does(t, h, "flush", engine.Reply{}, api.ErrNone)
	run(t, h, "deposit 1 1 5\n")
	want(t, "tables ahead", h.Market.Store().Version().Count(), 0)
	does(t, h, "flush", engine.Reply{}, api.OK)
	want(t, "tables", h.Market.Store().Version().Count(), 1)
	does(t, h, "flush", engine.Reply{}, api.ErrNone)
	run(t, h, "deposit 1 1 5\n")
	does(t, h, "fault 0", engine.Reply{}, api.OK)
	does(t, h, "flush", engine.Reply{}, api.ErrIO)
	does(t, h, "flush", engine.Reply{}, api.ErrReadOnly)
	does(t, h, "compact 0 0", engine.Reply{}, api.ErrReadOnly)
	does(t, h, "deposit 1 1 5", engine.Reply{Err: api.ErrReadOnly}, api.OK)
	does(t, h, "money 1", engine.Reply{Money: [2]api.Balance{{Free: 10}}}, api.OK)
	want(t, "no error of opening", h.Err, api.OK)
	run(t, h, "crash 0\nmoney 1\ndeposit 1 1 5\nflush\n")
	run(t, h, "deposit 1 1 5\nfuse 0\n")
	does(t, h, "flush", engine.Reply{}, api.ErrPower)
}

// levels: how many files a shell's store has on each.
func levels(h *script.Shell) [4]int {
	var n [4]int
	for i, l := range h.Market.Store().Version().Levels {
		n[i] = len(l)
	}
	return n
}

// TestCompact: P31.2, layer 17's, of this level, and this choice.
func TestCompact(t *testing.T) {
	h := started(t, 1<<20, store.Options{Table: 1})
	does(t, h, "compact 0 0", engine.Reply{}, api.ErrNone)
	run(t, h, "deposit 1 1 5\ndeposit 2 1 5\ndeposit 3 2 5\nflush\n")
	want(t, "flushed", levels(h), [4]int{1})
	for _, s := range []string{"compact 1 0", "compact 2 0", "compact 3 0", "compact -1 0", "compact 4 0", "compact 9223372036854775807 0", "compact -9223372036854775808 0"} {
		does(t, h, s, engine.Reply{}, api.ErrNone)
	}
	does(t, h, "compact 0 0", engine.Reply{}, api.OK)
	n := levels(h)[1]
	want(t, "some tables on the level 1", n > 1 && levels(h) == [4]int{0, n}, true)
	first, last := h.Market.Store().Version().Levels[1][0], h.Market.Store().Version().Levels[1][n-1]
	does(t, h, fmt.Sprint("compact 1 ", n-1), engine.Reply{}, api.OK)
	want(t, "one goes", levels(h), [4]int{0, n - 1, 1})
	want(t, "the last one", h.Market.Store().Version().Levels[2][0].Least, last.Least)
	does(t, h, "compact 1 0", engine.Reply{}, api.OK)
	want(t, "the first one", h.Market.Store().Version().Levels[2][0].Least, first.Least)
	does(t, h, "money 3", engine.Reply{Money: [2]api.Balance{{}, {Free: 5}}}, api.OK)
	does(t, h, "fault 0", engine.Reply{}, api.OK)
	does(t, h, "compact 2 0", engine.Reply{}, api.ErrIO)
	does(t, h, "compact 2 0", engine.Reply{}, api.ErrReadOnly)
}

// TestFuse: P31.2, so many steps more; below 0 any number.
func TestFuse(t *testing.T) {
	for n := range int64(9) {
		h := started(t, 1<<20, store.Options{})
		does(t, h, fmt.Sprint("fuse ", n), engine.Reply{}, api.OK)
		steps := h.Disk.Steps()
		for h.Disk.Steps()-steps < int(n) && !h.Disk.Down() {
			h.Do(lines(t, "deposit 1 1 5\n")[0])
		}
		want(t, fmt.Sprint("fuse ", n, ": there yet"), h.Disk.Down(), n%2 == 1)
		h.Do(lines(t, "deposit 1 1 5\n")[0])
		want(t, fmt.Sprint("fuse ", n, ": gone"), h.Disk.Down(), true)
		want(t, fmt.Sprint("fuse ", n, ": steps"), h.Disk.Steps()-steps, int(n))
		does(t, h, "deposit 1 1 5", engine.Reply{Err: api.ErrReadOnly}, api.OK)
		does(t, h, "crash 0", engine.Reply{}, api.OK)
		does(t, h, "money 1", engine.Reply{Money: [2]api.Balance{{Free: n / 2 * 5}}}, api.OK)
	}
	for _, n := range []string{"-1", "-9223372036854775808", "9223372036854775807"} {
		h := started(t, 1<<20, store.Options{})
		run(t, h, "fuse 0\nfuse "+n+"\n"+street)
	}
}

// TestFault: P31.2, ahead of which step ErrIO comes, once.
func TestFault(t *testing.T) {
	for n := range int64(5) {
		h := started(t, 1<<20, store.Options{})
		does(t, h, fmt.Sprint("fault ", n), engine.Reply{}, api.OK)
		for range n / 2 {
			does(t, h, "deposit 1 1 5", engine.Reply{}, api.OK)
		}
		does(t, h, "deposit 1 1 5", engine.Reply{Err: api.ErrStorage}, api.OK)
		want(t, "no power lost", h.Disk.Down(), false)
		does(t, h, "deposit 1 1 5", engine.Reply{Err: api.ErrReadOnly}, api.OK)
		does(t, h, "crash 0", engine.Reply{}, api.OK)
		does(t, h, "deposit 1 1 5", engine.Reply{}, api.OK)
	}
	for _, n := range []string{"-1", "-9223372036854775808", "9223372036854775807"} {
		h := started(t, 1<<20, store.Options{})
		run(t, h, "fault 0\nfault "+n+"\n"+street)
	}
}
