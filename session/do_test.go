package session_test

import (
	"fmt"
	"slices"
	"testing"

	"bourse/api"
	"bourse/batch"
	"bourse/command"
	"bourse/disk"
	"bourse/engine"
	"bourse/manifest"
	"bourse/session"
	"bourse/store"
	"bourse/wal"
)

// batches: those of a store's log.
func batches(t *testing.T, d *disk.Disk) []batch.Batch {
	t.Helper()
	l, e := wal.Load(d, slices.Max(wal.Numbers(d)))
	want(t, "the log", e, api.OK)
	return l
}

// TestDo: P28.2, each operation's reply is the engine's, and what it changed is one batch.
func TestDo(t *testing.T) {
	d, x := fresh(t), begin()
	m := opened(t, d, store.Options{})
	for _, op := range append(street(), limit(1, api.Buy, 7, 6, 0), cancel(3, 5), amend(1, 1, 3, 9), withdraw(1, api.Goods, 2), tick(3)) {
		what := fmt.Sprintf("%+v", op)
		seq, steps, n := m.Store().Seq(), d.Steps(), len(batches(t, d))
		want(t, what, both(t, m, x, op).Err, api.OK)
		want(t, what+": steps", d.Steps()-steps, 2)
		want(t, what+": Seq", m.Store().Seq()-seq, uint64(len(x.last)))
		l := batches(t, d)
		want(t, what+": batches", len(l), n+1)
		list(t, what+": its batch", l[n].Changes, x.last...)
		want(t, what+": its number", l[n].Seq, seq+1)
	}
}

// TestDoNothing: P28.2, what changes nothing, or has an error, writes nothing.
func TestDoNothing(t *testing.T) {
	d, m, x := begun(t, store.Options{})
	seq, steps := m.Store().Seq(), d.Steps()
	for op, e := range map[command.Op]api.Errno{
		tick(0):                           api.OK,
		amend(1, 1, 5, 4):                 api.OK,
		money(1):                          api.OK,
		money(0):                          api.ErrArg,
		depth(api.Sell, 32):               api.OK,
		depth(api.Sell, 33):               api.ErrArg,
		depth(3, 1):                       api.ErrSide,
		status(2):                         api.OK,
		status(99):                        api.ErrNone,
		tick(api.MaxTime):                 api.ErrTime,
		cancel(2, 1):                      api.ErrNone,
		amend(1, 1, 7, 4):                 api.ErrCross,
		amend(1, 1, 5, 1000):              api.ErrFunds,
		deposit(0, api.Cash, 1):           api.ErrArg,
		deposit(1, 3, 1):                  api.ErrKind,
		withdraw(1, api.Cash, 1000):       api.ErrFunds,
		limit(1, api.Buy, 5, 1000, 0):     api.ErrFunds,
		limit(1, 3, 5, 1, 0):              api.ErrSide,
		{Kind: 10}:                        api.ErrKind,
		{Kind: command.Tick, N: 1, ID: 1}: api.ErrForm,
		{Kind: command.Place, Account: 2, Side: api.Sell, Type: api.FOK, Price: 5, Size: 7}:      api.ErrKill,
		{Kind: command.Place, Account: 2, Side: api.Sell, Type: api.PostOnly, Price: 5, Size: 7}: api.ErrCross,
	} {
		what := fmt.Sprintf("%+v", op)
		r := both(t, m, x, op)
		want(t, what, r.Err, e)
		if e != api.OK {
			replies(t, what+": alone", r, engine.Reply{Err: e})
		}
		want(t, what+": nothing is written", m.Store().Seq() == seq && d.Steps() == steps, true)
	}
}

// shut: a market that is closed to changes: Bytes' error first, then ErrReadOnly, whatever the engine would say; what reads goes on.
func shut(t *testing.T, what string, d *disk.Disk, m *session.Market, x *model) {
	t.Helper()
	want(t, what+": Shut", m.Shut() && m.Store().ReadOnly(), true)
	steps := d.Steps()
	for op, e := range map[command.Op]api.Errno{
		{Kind: 0}:                               api.ErrKind,
		{Kind: command.Tick, ID: 1}:             api.ErrForm,
		{Kind: command.Deposit, Thing: 1 << 31}: api.ErrForm,
		{Kind: command.Depth, Side: 1, Type: 1}: api.ErrForm,
		tick(0):                                 api.ErrReadOnly,
		tick(1):                                 api.ErrReadOnly,
		tick(1 << 63):                           api.ErrReadOnly,
		deposit(1, api.Cash, 1):                 api.ErrReadOnly,
		deposit(0, api.Cash, 1):                 api.ErrReadOnly,
		withdraw(1, 9, 1):                       api.ErrReadOnly,
		limit(1, api.Buy, 1, 1, 0):              api.ErrReadOnly,
		limit(0, 0, 0, 0, 0):                    api.ErrReadOnly,
		cancel(1, 1):                            api.ErrReadOnly,
		cancel(1, 1000):                         api.ErrReadOnly,
		amend(1, 1, 5, 4):                       api.ErrReadOnly,
		amend(1, 1, 0, 0):                       api.ErrReadOnly,
	} {
		replies(t, fmt.Sprintf("%s, shut: %+v", what, op), m.Do(op), engine.Reply{Err: e})
	}
	for _, op := range []command.Op{money(1), money(2), money(3), money(9), money(0), status(1), status(6), status(1000), status(0), depth(1, 5), depth(2, 32), depth(1, 33), depth(3, 5)} {
		replies(t, fmt.Sprintf("%s, shut: %+v", what, op), m.Do(op), x.does(op))
	}
	list(t, what+": all", all(m.View()), all(x.s)...)
	want(t, what+": steps", d.Steps(), steps)
}

// TestDoStorage: P28.2, P28.3, each error of the Write is ErrStorage, alone; nothing is changed, and all further changes are refused.
func TestDoStorage(t *testing.T) {
	harms := map[string]func(d *disk.Disk){
		"the power, ahead of the first step": func(d *disk.Disk) { d.Fuse(0) },
		"the power, ahead of the sync":       func(d *disk.Disk) { d.Fuse(1) },
		"the first step fails":               func(d *disk.Disk) { d.Fault(0) },
		"the sync fails":                     func(d *disk.Disk) { d.Fault(1) },
		"the disk is full":                   func(d *disk.Disk) { d.Room(d.Used() + 5) },
		"the log is gone":                    func(d *disk.Disk) { d.Delete(slices.MinFunc(d.List(), byLog)) },
		"the power is gone":                  func(d *disk.Disk) { d.Fuse(0); d.Create("x") },
	}
	for what, harm := range harms {
		for _, op := range []command.Op{limit(1, api.Buy, 9, 12, 0), cancel(3, 5), amend(1, 1, 3, 9), withdraw(1, api.Cash, 2), tick(2), deposit(9, api.Goods, 1)} {
			what := fmt.Sprintf("%s: %+v", what, op)
			d, m, x := begun(t, store.Options{})
			want(t, what+": it could be done", x.copied().does(op).Err, api.OK)
			harm(d)
			seq := m.Store().Seq()
			replies(t, what, m.Do(op), engine.Reply{Err: api.ErrStorage})
			want(t, what+": Seq", m.Store().Seq(), seq)
			shut(t, what, d, m, x)
		}
	}
}

// byLog: a log's file is ahead of all others.
func byLog(a, b string) int {
	return slices.Index([]byte("l"), b[0]) - slices.Index([]byte("l"), a[0])
}

// TestDoAtTheEnd: P28.2, where no numbers are left for what changed the Write's error is ErrStorage, too, but the store isn't closed.
func TestDoAtTheEnd(t *testing.T) {
	for left := range 8 {
		d := fresh(t)
		_, e := manifest.Create(d, 1, manifest.State{Seq: uint64(batch.Top - left)})
		want(t, "Create", e, api.OK)
		m, x := opened(t, d, store.Options{}), begin()
		rest := left
		for _, op := range []command.Op{deposit(1, api.Cash, 5), tick(1), deposit(2, api.Goods, 3), tick(1), deposit(1, api.Cash, 1)} {
			what := fmt.Sprintf("%d are left: %+v", left, op)
			y := x.copied()
			r := y.does(op)
			want(t, what+": it could be done", r.Err == api.OK && len(y.last) > 0, true)
			if rest < len(y.last) {
				replies(t, what, m.Do(op), engine.Reply{Err: api.ErrStorage})
			} else {
				replies(t, what, m.Do(op), r)
				rest -= len(y.last)
				x = y
			}
			list(t, what+": all", all(m.View()), all(x.s)...)
			want(t, what+": Shut", m.Shut(), false)
		}
	}
}

// crowd: many orders that all end at 9, the last one perhaps another account's.
func crowd(t *testing.T, o store.Options, n int, last uint64) (*disk.Disk, *session.Market, *model) {
	t.Helper()
	d, x := fresh(t), begin()
	m := opened(t, d, o)
	l := []command.Op{deposit(1, api.Goods, 5000), deposit(2, api.Goods, 5000), deposit(3, api.Cash, 50000)}
	for i := range n {
		account := uint64(1)
		if i == n-1 {
			account = last
		}
		l = append(l, limit(account, api.Sell, 7, 1, 9))
	}
	for _, op := range l {
		replies(t, fmt.Sprintf("%+v", op), m.Do(op), x.does(op))
	}
	return d, m, x
}

// many: an operation that changes too much: ErrMany, alone, nothing is done, not a step; all goes on.
func many(t *testing.T, what string, d *disk.Disk, m *session.Market, x *model, op command.Op) {
	t.Helper()
	steps, seq := d.Steps(), m.Store().Seq()
	replies(t, what, m.Do(op), engine.Reply{Err: api.ErrMany})
	want(t, what+": nothing is done", d.Steps() == steps && m.Store().Seq() == seq && !m.Shut(), true)
	list(t, what+": all", all(m.View()), all(x.s)...)
}

// TestDoMany: P28.2, 2000 changes are a batch, one more is ErrMany.
func TestDoMany(t *testing.T) {
	for _, o := range []store.Options{{}, {Memo: 5000, Table: 3000}} {
		d, m, x := crowd(t, o, 666, 1)
		y := x.copied()
		y.does(tick(9))
		want(t, "changes", len(y.last), 2000)
		want(t, "gone", len(both(t, m, x, tick(9)).Gone), 666)
		want(t, "Seq", opened(t, d, o).Store().Seq() == m.Store().Seq(), true)

		d, m, x = crowd(t, o, 666, 2)
		y = x.copied()
		want(t, "gone, too many", len(y.does(tick(9)).Gone), 666)
		want(t, "changes, too many", len(y.last), 2001)
		many(t, "2001", d, m, x, tick(9))
		d.Fault(0)
		many(t, "2001, and a step that would fail", d, m, x, tick(9))
		d.Fault(-1)
		want(t, "cancel", both(t, m, x, cancel(2, 666)).Err, api.OK)
		want(t, "the others", len(both(t, m, x, tick(9)).Gone), 665)
	}
	d, m, x := crowd(t, store.Options{}, 700, 2)
	many(t, "trades", d, m, x, limit(3, api.Buy, 7, 700, 0))
	want(t, "less trades", len(both(t, m, x, limit(3, api.Buy, 7, 600, 0)).Trades), 600)
}

// TestFlushFails: P28.2, P28.3, of a Write that is OK no Flush's error is told, but then all changes are refused.
func TestFlushFails(t *testing.T) {
	for fault := 2; fault < 6; fault++ {
		d, m, x := begun(t, store.Options{})
		m = opened(t, d, store.Options{Memo: 1})
		d.Fault(fault)
		want(t, "told as done", both(t, m, x, withdraw(1, api.Cash, 2)).Err, api.OK)
		shut(t, fmt.Sprint("the step ", fault), d, m, x)
		d.Crash(nil)
		list(t, "opened anew", all(opened(t, d, store.Options{}).View()), all(x.s)...)
	}
}

// TestDoBroken: P28.2, what stands there otherwise than a market has it is an error of the engine, and nothing is written.
func TestDoBroken(t *testing.T) {
	d, m, x := begun(t, store.Options{})
	for _, p := range all(m.View()) {
		bad := api.Change{Kind: api.Put, Key: p.Key, Value: "\x80"}
		want(t, "Write", m.Store().Write(bad), api.OK)
		x.s.Do([]api.Change{bad})
	}
	steps := d.Steps()
	for _, op := range append(street(), cancel(1, 1), amend(1, 1, 3, 9), tick(2), money(1), depth(api.Buy, 1), status(1)) {
		r := both(t, m, x, op)
		want(t, fmt.Sprintf("%+v: refused", op), r.Err != api.OK, true)
		replies(t, fmt.Sprintf("%+v: alone", op), r, engine.Reply{Err: r.Err})
	}
	want(t, "steps", d.Steps(), steps)
}
