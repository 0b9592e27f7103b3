package tape_test

import (
	"fmt"
	"slices"
	"testing"

	"bourse/api"
	"bourse/command"
	"bourse/disk"
	"bourse/engine"
	"bourse/overlay"
	"bourse/session"
	"bourse/store"
	"bourse/tape"
)

// replies: as list, of replies.
func replies(t *testing.T, what string, got []engine.Reply, wanted ...engine.Reply) {
	t.Helper()
	if !slices.EqualFunc(got, wanted, engine.Same) {
		t.Errorf("%s: %+v, wanted %+v", what, got, wanted)
	}
}

// refused: an error, alone.
func refused(e api.Errno) engine.Reply { return engine.Reply{Err: e} }

// opened: a market on a disk.
func opened(t *testing.T, d *disk.Disk, o store.Options) *session.Market {
	t.Helper()
	m, e := session.Open(d, o)
	if e != api.OK || m == nil {
		t.Fatalf("Open: %v, files %v", e, d.List())
	}
	return m
}

// fresh: a market on an empty disk.
func fresh(t *testing.T, o store.Options) (*disk.Disk, *session.Market) {
	t.Helper()
	d, e := disk.New(1 << 22)
	want(t, "New", e, api.OK)
	return d, opened(t, d, o)
}

// all: a reader's pairs.
func all(r overlay.Reader) []api.Pair { return slices.Collect(r.Range("", "")) }

// model: what a market in memory answers, one operation behind the other.
func model(s *overlay.Shelf, l []command.Op) []engine.Reply {
	var out []engine.Reply
	for _, o := range l {
		over := overlay.Over(s)
		r := command.Do(engine.On(over), o)
		if r.Err == api.OK {
			s.Do(over.Changes())
		}
		out = append(out, r)
	}
	return out
}

// street: money, three that sell, one that buys of two of them, and more of all kinds; some are refused.
func street() []command.Op {
	return []command.Op{
		deposit(1, api.Cash, 500),
		deposit(2, api.Goods, 9),
		limit(2, api.Sell, 5, 2),
		limit(2, api.Sell, 6, 3),
		limit(2, api.Sell, 7, 5), // more than there is
		limit(2, api.Sell, 7, 4),
		limit(1, api.Buy, 6, 4),
		{Kind: command.Depth, Side: api.Sell, Most: 5},
		{Kind: command.Amend, Account: 2, ID: 3, Price: 8, Size: 4},
		{Kind: command.Status, ID: 3},
		{Kind: command.Cancel, Account: 1, ID: 3}, // another one's
		{Kind: command.Place, Account: 1, Side: api.Buy, Type: api.IOC, Price: 8, Size: 9},
		tick(3),
		withdraw(1, api.Goods, 1),
		money(1),
		money(0),
	}
}

// TestPlay is P36.2: each operation is done, in order; what is refused is a reply as others are, and all goes on.
func TestPlay(t *testing.T) {
	for _, o := range []store.Options{{}, {Memo: 1}, {Memo: 700, Table: 500}} {
		_, m := fresh(t, o)
		s := overlay.New()
		l, e := tape.Play(m, tapeOf(t, street()...))
		want(t, "Play", e, api.OK)
		wanted := model(s, street())
		replies(t, "replies", l, wanted...)
		list(t, "all that is there", all(m.View()), all(s)...)
		errors := map[api.Errno]int{}
		for _, r := range l {
			errors[r.Err]++
		}
		want(t, "funds", errors[api.ErrFunds], 1)
		want(t, "another one's", errors[api.ErrNone], 1)
		want(t, "account 0", errors[api.ErrArg], 1)
		want(t, "done", errors[api.OK], len(l)-3)

		// Another tape goes on where the first one ended.
		more := []command.Op{money(2), tick(1), {Kind: command.Cancel, Account: 2, ID: 3}, money(1)}
		l, e = tape.Play(m, tapeOf(t, more...))
		want(t, "Play on", e, api.OK)
		replies(t, "replies further on", l, model(s, more)...)
		list(t, "all that is there then", all(m.View()), all(s)...)
	}
}

// TestPlayNothing is P36.2: an empty tape.
func TestPlayNothing(t *testing.T) {
	d, m := fresh(t, store.Options{})
	steps := d.Steps()
	l, e := tape.Play(m, "")
	want(t, "Play", e, api.OK)
	replies(t, "replies", l)
	want(t, "steps", d.Steps(), steps)
}

// TestPlayNil is P36.2: of a nil market ErrNil, and none, ahead of all else.
func TestPlayNil(t *testing.T) {
	for what, s := range map[string]string{"empty": "", "whole": tapeOf(t, tick(1)), "cut": "x", "no operation": laid("\x00")} {
		l, e := tape.Play(nil, s)
		want(t, what, e, api.ErrNil)
		replies(t, what+": replies", l)
	}
}

// TestPlayBroken is P36.2: Ops' error, behind the replies to what is ahead of it.
func TestPlayBroken(t *testing.T) {
	l := street()[:7]
	whole := tapeOf(t, l...)
	var records []string
	for _, o := range l {
		records = append(records, record(t, o))
	}
	for what, c := range map[string]struct {
		s     string
		n     int
		wants api.Errno
	}{
		"cut":                         {whole[:len(whole)-1], 6, api.ErrForm},
		"bytes behind":                {whole + "\x00", 7, api.ErrForm},
		"no tape":                     {"no tape", 0, api.ErrForm},
		"no operation at the end":     {laid(append(records[:7:7], "\x0a")...), 7, api.ErrKind},
		"no operation between":        {laid(append(records[:3:3], "\x04", records[3])...), 3, api.ErrShort},
		"no operation, and a cut one": {laid(append(records[:3:3], "\x04\x80\x00")...) + "x", 3, api.ErrForm},
		"no operation at first":       {laid("", records[0]), 0, api.ErrKind},
	} {
		_, m := fresh(t, store.Options{})
		s := overlay.New()
		got, e := tape.Play(m, c.s)
		want(t, what, e, c.wants)
		replies(t, what+": replies", got, model(s, l[:c.n])...)
		list(t, what+": all that is there", all(m.View()), all(s)...)
		want(t, what+": Shut", m.Shut(), false)
	}
}

// TestPlayStorage is P36.2: a reply of ErrStorage ends it, with that error, and so does one of ErrReadOnly; that reply is told, too.
func TestPlayStorage(t *testing.T) {
	l := street()
	for fault := range 12 {
		d, m := fresh(t, store.Options{})
		s := overlay.New()
		d.Fault(fault)
		got, e := tape.Play(m, tapeOf(t, l...)+"x") // the error ahead of that of the tape
		want(t, fmt.Sprint("the step ", fault), e, api.ErrStorage)
		done := len(got) - 1
		if done < 0 {
			t.Fatalf("the step %d: no reply", fault)
		}
		replies(t, fmt.Sprint("the step ", fault, ": replies"), got, append(model(s, l[:done]), refused(api.ErrStorage))...)
		list(t, fmt.Sprint("the step ", fault, ": all that is there"), all(m.View()), all(s)...)
		want(t, fmt.Sprint("the step ", fault, ": Shut"), m.Shut(), true)

		// Shut it still tells, up to the first change.
		reads := []command.Op{money(1), {Kind: command.Status, ID: 1}, money(0)}
		got, e = tape.Play(m, tapeOf(t, reads...))
		want(t, "reads of what is shut", e, api.OK)
		replies(t, "reads of what is shut: replies", got, model(s, reads)...)
		got, e = tape.Play(m, tapeOf(t, append(reads, tick(1), money(1))...))
		want(t, "a change of what is shut", e, api.ErrReadOnly)
		replies(t, "a change of what is shut: replies", got, append(model(s, reads), refused(api.ErrReadOnly))...)
		got, e = tape.Play(m, tapeOf(t, tick(0))+"x")
		want(t, "one that changes nothing", e, api.ErrReadOnly)
		replies(t, "one that changes nothing: replies", got, refused(api.ErrReadOnly))
	}
}

// TestPlayZero: of a market without a store nothing can be changed.
func TestPlayZero(t *testing.T) {
	got, e := tape.Play(&session.Market{}, tapeOf(t, money(1), tick(1), money(1)))
	want(t, "Play", e, api.ErrReadOnly)
	replies(t, "replies", got, refused(api.OK), refused(api.ErrReadOnly))
}

// TestPlayLasts: what was played is there behind a crash.
func TestPlayLasts(t *testing.T) {
	d, m := fresh(t, store.Options{})
	l := street()
	got, e := tape.Play(m, tapeOf(t, l...))
	want(t, "Play", e, api.OK)
	d.Crash(nil)
	s := overlay.New()
	replies(t, "replies", got, model(s, l)...)
	list(t, "opened anew", all(opened(t, d, store.Options{}).View()), all(s)...)
}

// TestTrades is P36.2: all trades of replies, in order, of errors' replies, too.
func TestTrades(t *testing.T) {
	x, y, z := api.Trade{Maker: 1, Taker: 2, Price: 3, Size: 4}, api.Trade{Maker: 5, Taker: 2, Price: 6, Size: 7}, api.Trade{Maker: 1, Taker: 8}
	l := []engine.Reply{{ID: 1}, {Trades: []api.Trade{x, y}}, {Err: api.ErrNone, Trades: []api.Trade{x}}, {}, {Trades: []api.Trade{}}, {Trades: []api.Trade{z}}, {Trades: []api.Trade{y}}}
	list(t, "trades", tape.Trades(l[:6]), x, y, x, z)
	list(t, "of none", tape.Trades(nil))
	list(t, "without trades", tape.Trades(l[:1]))
	one := tape.Trades(l[1:2])
	one[0] = z
	list(t, "what was handed in stays", l[1].Trades, x, y)

	room := []api.Trade{x, y, z}
	held := []engine.Reply{{Trades: room[:1]}, {Trades: []api.Trade{y, y}}}
	list(t, "beside spare room", tape.Trades(held), x, y, y)
	list(t, "spare room stays", room, x, y, z)

	_, m := fresh(t, store.Options{})
	got, e := tape.Play(m, tapeOf(t, street()...))
	want(t, "Play", e, api.OK)
	list(t, "of a tape", tape.Trades(got),
		api.Trade{Maker: 1, Taker: 4, Price: 5, Size: 2}, api.Trade{Maker: 2, Taker: 4, Price: 6, Size: 2},
		api.Trade{Maker: 2, Taker: 5, Price: 6, Size: 1}, api.Trade{Maker: 3, Taker: 5, Price: 8, Size: 4})
}
