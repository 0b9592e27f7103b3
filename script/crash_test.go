package script_test

import (
	"fmt"
	"slices"
	"strings"
	"testing"

	"bourse/api"
	"bourse/command"
	"bourse/disk"
	"bourse/engine"
	"bourse/script"
	"bourse/session"
	"bourse/store"
)

// TestCrash: P31.2, of each file so many of the loose bytes are kept, none turned, and the market is opened anew.
func TestCrash(t *testing.T) {
	for text, kept := range map[string]int{"0": 0, "1": 1, "2": 2, "5": 5, "9": 9, "10": 10, "11": 10, "9223372036854775807": 10, "-1": 0, "-9223372036854775808": 0} {
		h := started(t, 1<<20, store.Options{Memo: 7777, Heights: []int{3, 1}})
		run(t, h, street)
		all, was := pairs(h.Market), h.Market
		for i := range 12 {
			name := fmt.Sprintf("x%02d", i)
			want(t, "a file", h.Disk.Create(name) == api.OK && h.Disk.Append(name, "lasts") == api.OK && h.Disk.Sync(name) == api.OK, true)
			if i%4 != 3 {
				want(t, "loose", h.Disk.Append(name, "0123456789"), api.OK)
			}
		}
		h.Disk.Fuse(0)
		does(t, h, "deposit 1 1 5", engine.Reply{Err: api.ErrStorage}, api.OK)
		does(t, h, "crash "+text, engine.Reply{}, api.OK)
		for i := range 12 {
			s, e := h.Disk.Read(fmt.Sprintf("x%02d", i))
			wanted := "lasts" + "0123456789"[:kept]
			if i%4 == 3 {
				wanted = "lasts"
			}
			want(t, fmt.Sprint("crash ", text, ": file ", i), s == wanted && e == api.OK, true)
		}
		want(t, "opened anew", h.Market != was && h.Market != nil && !h.Market.Shut() && h.Err == api.OK, true)
		got := h.Market.Store().Options()
		want(t, "the options", got.Memo == 7777 && slices.Equal(got.Heights, []int{3, 1}), true)
		list(t, "all", pairs(h.Market), all...)
		run(t, h, "deposit 1 1 5\ncrash 0\nmoney 1\n")
	}
}

// TestCrashUnderway: P31.2, what was under way is there whole, where all of it is kept, else not at all.
func TestCrashUnderway(t *testing.T) {
	for keep, free := range map[int]int64{0: 5, 3: 5, 100: 12} {
		h := started(t, 1<<20, store.Options{})
		run(t, h, "deposit 1 1 5\nfuse 1\n")
		does(t, h, "deposit 1 1 7", engine.Reply{Err: api.ErrStorage}, api.OK)
		does(t, h, fmt.Sprint("crash ", keep), engine.Reply{}, api.OK)
		does(t, h, "money 1", engine.Reply{Money: [2]api.Balance{{Free: free}}}, api.OK)
	}
}

// TestErr: P31.2, with an error of opening each line is answered so, and does nothing, but a further crash.
func TestErr(t *testing.T) {
	o := store.Options{Memo: 3000, Block: 90, Table: 200, Heights: []int{2, 1}}
	h := started(t, 1<<20, o)
	run(t, h, street)
	all := pairs(h.Market)
	for range 3 {
		h.Disk.Room(0)
		for range 2 {
			does(t, h, "crash 0", engine.Reply{}, api.ErrFull)
			want(t, "Err", h.Err, api.ErrFull)
		}
		h.Disk.Room(1 << 20)
		before := content(h.Disk)
		for kind := range tells() {
			if kind != script.Crash {
				_, s := told(kind, some(kind, 1)...)
				does(t, h, s, engine.Reply{}, api.ErrFull)
			}
		}
		for _, s := range []string{"deposit 1 1 5", "money 1", "flush", "compact 0 0", "fuse 0", "fault 0"} {
			does(t, h, s, engine.Reply{}, api.ErrFull)
		}
		want(t, "the disk", content(h.Disk), before)
		want(t, "a step yet", h.Disk.Create("x") == api.OK && h.Disk.Delete("x") == api.OK, true) // neither a fuse nor a fault
		does(t, h, "crash 0", engine.Reply{}, api.OK)
		want(t, "no error any more", h.Err, api.OK)
		got := h.Market.Store().Options()
		want(t, "the options", got.Memo == 3000 && got.Block == 90 && got.Table == 200 && slices.Equal(got.Heights, o.Heights), true)
		list(t, "all", pairs(h.Market), all...)
		run(t, h, "deposit 1 1 5\nmoney 1\n")
		all = pairs(h.Market)
	}
}

// TestErrBroken: P31.2, layer 28's error, whichever it is; it may be another one behind a further crash.
func TestErrBroken(t *testing.T) {
	h := started(t, 1<<20, store.Options{})
	run(t, h, street)
	all := pairs(h.Market)
	current, _ := h.Disk.Read("current")
	write := func(s string) {
		h.Disk.Delete("current")
		want(t, "current", h.Disk.Create("current") == api.OK && h.Disk.Append("current", s) == api.OK && h.Disk.Sync("current") == api.OK, true)
	}
	write("x" + current)
	does(t, h, "crash 0", engine.Reply{}, api.ErrBroken)
	does(t, h, "money 1", engine.Reply{}, api.ErrBroken)
	write(current)
	h.Disk.Room(0)
	does(t, h, "crash 0", engine.Reply{}, api.ErrFull)
	does(t, h, "flush", engine.Reply{}, api.ErrFull)
	h.Disk.Room(1 << 20)
	does(t, h, "crash 0", engine.Reply{}, api.OK)
	list(t, "all", pairs(h.Market), all...)
}

// hand: what a shell does, by the calls of the layers below.
type hand struct {
	d *disk.Disk
	m *session.Market
	o store.Options
	e api.Errno
}

func (x *hand) does(l script.Line) (engine.Reply, api.Errno) {
	if _, e := script.Print(l); e != api.OK {
		return engine.Reply{}, e
	}
	if l.Kind == 14 {
		var fates []api.Fate
		for range 200 {
			fates = append(fates, api.Fate{Keep: int(l.A)})
		}
		x.d.Crash(fates)
		x.m, x.e = session.Open(x.d, x.o)
	}
	if x.e != api.OK || l.Kind == 14 {
		return engine.Reply{}, x.e
	}
	switch l.Kind {
	case 10:
		return engine.Reply{}, x.m.Store().Flush()
	case 11:
		return engine.Reply{}, x.m.Store().Compact(int(l.A), int(l.B))
	case 12:
		x.d.Fuse(int(l.A))
		return engine.Reply{}, api.OK
	case 13:
		x.d.Fault(int(l.A))
		return engine.Reply{}, api.OK
	}
	return x.m.Do(l.Op), api.OK
}

// options: some.
func (d *dice) options() store.Options {
	o := store.Options{Memo: d.below(3) * d.below(400), Block: d.below(300), Table: d.below(500)}
	for range d.below(4) {
		o.Heights = append(o.Heights, 1+d.below(5))
	}
	return o
}

// line: one of any kind, now and then a wrong one.
func (d *dice) line() script.Line {
	account, id := uint64(1+d.below(3)), uint64(1+d.below(9))
	price, size := int64(1+d.below(6)), int64(1+d.below(9))
	o := command.Op{}
	switch d.below(24) {
	case 0, 1, 2:
		o = command.Op{Kind: 5, Account: account, Thing: 1 + d.below(2), Size: 40 * size}
	case 3:
		o = command.Op{Kind: 6, Account: account, Thing: 1 + d.below(2), Size: size}
	case 4:
		o = command.Op{Kind: 2, Account: account, ID: id}
	case 5:
		o = command.Op{Kind: 3, Account: account, ID: id, Price: price, Size: size}
	case 6:
		o = command.Op{Kind: 4, N: uint64(d.below(3))}
	case 7:
		o = command.Op{Kind: 7, Side: d.below(3), Most: d.below(34)}
	case 8:
		o = command.Op{Kind: 8, ID: id}
	case 9:
		o = command.Op{Kind: 9, Account: account}
	case 10, 11:
		return script.Line{Kind: 10}
	case 12, 13:
		return script.Line{Kind: 11, A: int64(d.below(5) - 1), B: int64(d.below(4))}
	case 14:
		return script.Line{Kind: 12, A: int64(d.below(90) - 20)}
	case 15:
		return script.Line{Kind: 13, A: int64(d.below(90) - 20)}
	case 16, 17:
		return script.Line{Kind: 14, A: int64(d.below(3) * d.below(100))}
	case 18:
		return script.Line{Kind: d.below(16), Op: command.Op{Kind: d.below(11), N: uint64(d.below(2))}, A: int64(d.below(2)), B: int64(d.below(2))}
	default:
		o = command.Op{Kind: 1, Account: account, Side: 1 + d.below(2), Type: 1 + d.below(2)*d.below(5), Price: price, Size: size}
		if o.Type == api.Market {
			o.Price = 0
		}
		if o.Type == api.Limit {
			o.Expiry = uint64(d.below(2) * d.below(20))
		}
	}
	return script.Line{Kind: o.Kind, Op: o}
}

// TestModel: P31.2, by dice: a shell answers, and leaves on its disk, what the layers below do.
func TestModel(t *testing.T) {
	c := dice(312)
	seen := map[string]int{}
	for round := range 400 {
		room, o := 1<<20, c.options()
		if c.one(3) {
			room = 600 + c.below(3000)
		}
		h := started(t, room, o)
		x := &hand{o: o}
		x.d, _ = disk.New(room)
		x.m, _ = session.Open(x.d, o)
		for i := range 60 {
			l := c.line()
			if i < 6 {
				l, _ = told(command.Deposit, uint64(1+i/2), uint64(1+i%2), 300)
			}
			what := fmt.Sprintf("round %d: %+v", round, l)
			r, e := h.Do(l)
			reply, wanted := x.does(l)
			want(t, what, e, wanted)
			want(t, what+": the reply", engine.Same(r, reply), true)
			want(t, what+": Err", h.Err, x.e)
			want(t, what+": the disk", content(h.Disk), content(x.d))
			if x.e == api.OK {
				list(t, what+": all", pairs(h.Market), pairs(x.m)...)
			}
			if t.Failed() {
				return
			}
			seen[fmt.Sprint(l.Kind, " ", e == api.OK && r.Err == api.OK)]++
			seen[fmt.Sprint("opening ", int(h.Err))]++
			seen[fmt.Sprint("reply ", int(r.Err))]++
		}
	}
	for kind, names := range tells() {
		want(t, fmt.Sprint("the dice did ", names[0], ", ", seen[fmt.Sprint(kind, " true")]), seen[fmt.Sprint(kind, " true")] > 30, true)
		want(t, "the dice failed "+names[0], seen[fmt.Sprint(kind, " false")] > 20, true)
	}
	for _, what := range []string{"opening 14", "reply 35", "reply 22"} {
		want(t, fmt.Sprint("the dice made ", what, ", ", seen[what]), seen[what] > 50, true)
	}
}

// TestExample: a script as a whole.
func TestExample(t *testing.T) {
	h := started(t, 1<<20, store.Options{})
	got := ""
	for _, l := range lines(t, "deposit 1 1 10\ndeposit 2 2 5\nplace 2 2 1 2 5 0\nfuse 0\nplace 1 1 1 3 3 0\nmoney 1\ncrash 0\nplace 1 1 1 3 3 0\ncrash 0\nmoney 1\nmoney 2\n") {
		r, e := h.Do(l)
		s, _ := script.Print(l)
		got += fmt.Sprintf("%s: %v %v %v %v\n", s, int(e), int(r.Err), len(r.Trades), r.Money)
	}
	wanted := []string{
		"deposit 1 1 10: 0 0 0 [{0 0} {0 0}]", "deposit 2 2 5: 0 0 0 [{0 0} {0 0}]", "place 2 2 1 2 5 0: 0 0 0 [{0 0} {0 0}]", "fuse 0: 0 0 0 [{0 0} {0 0}]",
		"place 1 1 1 3 3 0: 0 35 0 [{0 0} {0 0}]", "money 1: 0 0 0 [{10 0} {0 0}]", "crash 0: 0 0 0 [{0 0} {0 0}]", "place 1 1 1 3 3 0: 0 0 1 [{0 0} {0 0}]",
		"crash 0: 0 0 0 [{0 0} {0 0}]", "money 1: 0 0 0 [{4 0} {3 0}]", "money 2: 0 0 0 [{6 0} {0 2}]",
	}
	want(t, "the script", got, strings.Join(wanted, "\n")+"\n")
}
