package session_test

import (
	"fmt"
	"math"
	"slices"
	"testing"

	"bourse/api"
	"bourse/command"
	"bourse/disk"
	"bourse/engine"
	"bourse/overlay"
	"bourse/session"
	"bourse/store"
)

// want: a test fails, if something is another thing than was wanted.
func want[T comparable](t *testing.T, what string, got, wanted T) {
	t.Helper()
	if got != wanted {
		t.Errorf("%s: %v, wanted %v", what, got, wanted)
	}
}

// list: as want, of lists.
func list[T comparable](t *testing.T, what string, got []T, wanted ...T) {
	t.Helper()
	if !slices.Equal(got, wanted) {
		t.Errorf("%s: %v, wanted %v", what, got, wanted)
	}
}

// replies: as want, of replies.
func replies(t *testing.T, what string, got, wanted engine.Reply) {
	t.Helper()
	if !engine.Same(got, wanted) {
		t.Errorf("%s: %+v, wanted %+v", what, got, wanted)
	}
}

// all: a reader's pairs.
func all(r overlay.Reader) []api.Pair { return slices.Collect(r.Range("", "")) }

// fresh: an empty disk.
func fresh(t *testing.T) *disk.Disk {
	t.Helper()
	d, e := disk.New(1 << 24)
	want(t, "New", e, api.OK)
	return d
}

// opened: a market that could be opened.
func opened(t *testing.T, d *disk.Disk, o store.Options) *session.Market {
	t.Helper()
	m, e := session.Open(d, o)
	if e != api.OK || m == nil {
		t.Fatalf("Open: %v, files %v", e, d.List())
	}
	return m
}

func deposit(account uint64, thing int, n int64) command.Op {
	return command.Op{Kind: command.Deposit, Account: account, Thing: thing, Size: n}
}

func withdraw(account uint64, thing int, n int64) command.Op {
	return command.Op{Kind: command.Withdraw, Account: account, Thing: thing, Size: n}
}

func limit(account uint64, side int, price, size int64, expiry uint64) command.Op {
	return command.Op{Kind: command.Place, Account: account, Side: side, Type: api.Limit, Price: price, Size: size, Expiry: expiry}
}

func amend(account, id uint64, price, size int64) command.Op {
	return command.Op{Kind: command.Amend, Account: account, ID: id, Price: price, Size: size}
}

func cancel(account, id uint64) command.Op {
	return command.Op{Kind: command.Cancel, Account: account, ID: id}
}

func tick(n uint64) command.Op { return command.Op{Kind: command.Tick, N: n} }

func depth(side, most int) command.Op {
	return command.Op{Kind: command.Depth, Side: side, Most: most}
}

func status(id uint64) command.Op { return command.Op{Kind: command.Status, ID: id} }

func money(account uint64) command.Op { return command.Op{Kind: command.Money, Account: account} }

// model: a market in memory, and what each operation changed.
type model struct {
	s    *overlay.Shelf
	last []api.Change
}

func begin() *model { return &model{s: overlay.New()} }

// does: an operation's reply; with an error nothing is done.
func (m *model) does(o command.Op) engine.Reply {
	over := overlay.Over(m.s)
	r := command.Do(engine.On(over), o)
	m.last = nil
	if r.Err == api.OK {
		m.last = over.Changes()
		m.s.Do(m.last)
	}
	return r
}

// copied: another one with the same pairs.
func (m *model) copied() *model { return &model{s: overlay.New(all(m.s)...)} }

// both: an operation of a market and of its model; all that stands then.
func both(t *testing.T, m *session.Market, o *model, op command.Op) engine.Reply {
	t.Helper()
	r := m.Do(op)
	replies(t, fmt.Sprintf("%+v", op), r, o.does(op))
	list(t, fmt.Sprintf("%+v: all", op), all(m.View()), all(o.s)...)
	return r
}

// street: operations behind which orders rest on both sides.
func street() []command.Op {
	return []command.Op{
		deposit(1, api.Cash, 500), deposit(2, api.Goods, 50), deposit(3, api.Cash, 100), deposit(3, api.Goods, 9),
		limit(1, api.Buy, 5, 4, 0), limit(3, api.Buy, 5, 2, 3), limit(1, api.Buy, 4, 6, 2),
		limit(2, api.Sell, 7, 3, 0), limit(3, api.Sell, 7, 5, 4), limit(2, api.Sell, 9, 8, 2), tick(1),
	}
}

// begun: a market and its model, with the street.
func begun(t *testing.T, o store.Options) (*disk.Disk, *session.Market, *model) {
	t.Helper()
	d, x := fresh(t), begin()
	m := opened(t, d, o)
	for _, op := range street() {
		want(t, fmt.Sprintf("%+v", op), both(t, m, x, op).Err, api.OK)
	}
	return d, m, x
}

// TestOpen: P28.1, of an empty disk a market without pairs; anew, what was.
func TestOpen(t *testing.T) {
	d := fresh(t)
	o := store.Options{Memo: 100, Block: 200, Table: 300, Heights: []int{1, 2}}
	m := opened(t, d, o)
	got := m.Store().Options()
	want(t, "the options", got.Memo == 100 && got.Block == 200 && got.Table == 300 && slices.Equal(got.Heights, o.Heights), true)
	want(t, "nothing", len(all(m.View())) == 0 && !m.Shut() && m.Store().Seq() == 0, true)
	replies(t, "deposit", m.Do(deposit(1, api.Cash, 7)), engine.Reply{})
	d.Crash(nil)
	m = opened(t, d, store.Options{})
	replies(t, "anew", m.Do(money(1)), engine.Reply{Money: [2]api.Balance{{Free: 7}}})
	want(t, "other options", m.Store().Options().Memo, 0)
}

// TestOpenErrors: P28.1, layer 17's, and no market.
func TestOpenErrors(t *testing.T) {
	refuses := func(what string, d *disk.Disk, wanted api.Errno) {
		t.Helper()
		_, e := store.Open(d, store.Options{})
		want(t, what+": the store", e, wanted)
		m, e := session.Open(d, store.Options{})
		want(t, what, e, wanted)
		want(t, what+": the market", m == nil, true)
	}
	refuses("nil", nil, api.ErrNil)
	d, _, _ := begun(t, store.Options{})
	d.Fuse(0)
	refuses("no power", d, api.ErrPower)
	d.Crash(nil)
	opened(t, d, store.Options{})
	d.Room(0)
	refuses("no room", d, api.ErrFull)
	d, _, _ = begun(t, store.Options{})
	want(t, "current", d.Append("current", "x"), api.OK)
	refuses("broken", d, api.ErrBroken)
}

// TestStore: P28.1, its own store, in which its state stands.
func TestStore(t *testing.T) {
	_, m, x := begun(t, store.Options{Memo: 200})
	s := m.Store()
	want(t, "the same", s != nil && s == m.Store(), true)
	list(t, "its pairs", slices.Collect(s.Range("", "", s.Seq())), all(x.s)...)
	want(t, "flushed", s.Version().Count() > 0, true)
}

// TestShut: P28.1, is the store closed to changes?
func TestShut(t *testing.T) {
	d, m, _ := begun(t, store.Options{})
	want(t, "open", m.Shut(), false)
	d.Fault(0)
	want(t, "Flush", m.Store().Flush(), api.ErrIO)
	want(t, "shut", m.Shut() && m.Store().ReadOnly(), true)
	replies(t, "shut", m.Do(tick(1)), engine.Reply{Err: api.ErrReadOnly})
	want(t, "anew", opened(t, d, store.Options{}).Shut(), false)
}

// TestNil: P28.1, of a nil market nil, ErrNil, true; readers without pairs.
func TestNil(t *testing.T) {
	var m *session.Market
	want(t, "Store", m.Store() == nil, true)
	want(t, "Shut", m.Shut(), true)
	for _, op := range append(street(), money(1), command.Op{}, command.Op{Kind: command.Tick, ID: 1}) {
		replies(t, fmt.Sprintf("%+v", op), m.Do(op), engine.Reply{Err: api.ErrNil})
	}
	for _, s := range []string{"", "\x04\x05", "\x04", "\x0a", "\x09\x01"} {
		replies(t, fmt.Sprintf("%x", s), m.Bytes(s), engine.Reply{Err: api.ErrNil})
	}
	for what, r := range map[string]overlay.Reader{"View": m.View(), "Seen": m.Seen(0), "Seen at the end": m.Seen(math.MaxUint64)} {
		v, ok := r.Get("a")
		want(t, what, v == "" && !ok && len(all(r)) == 0, true)
		want(t, what+" below an overlay", len(all(overlay.Over(r))), 0)
	}
}

// TestBytes: P28.2, layer 27's Parse's error, alone; else Do.
func TestBytes(t *testing.T) {
	d, m, x := begun(t, store.Options{})
	steps := d.Steps()
	for s, e := range map[string]api.Errno{
		"": api.ErrKind, "\x00": api.ErrKind, "\x0a\x01": api.ErrKind, "\x04": api.ErrShort, "\x04\x05\x00": api.ErrForm, "\x04\x85\x00": api.ErrForm,
		"\x05\x01\x80\x80\x80\x80\x08\x02": api.ErrForm, "\x04\xff\xff\xff\xff\xff\xff\xff\xff\xff\x02": api.ErrRange,
		"\x05\x00\x01\x02": api.ErrArg, "\x07\x03\x01": api.ErrSide, "\x08\x7f": api.ErrNone,
	} {
		replies(t, fmt.Sprintf("%x", s), m.Bytes(s), engine.Reply{Err: e})
	}
	want(t, "steps", d.Steps(), steps)
	for _, op := range append(street(), money(1), depth(api.Buy, 9), status(3), cancel(1, 1), amend(2, 4, 8, 2), withdraw(1, api.Cash, 5)) {
		s, e := command.Bytes(op)
		want(t, "bytes", e, api.OK)
		replies(t, fmt.Sprintf("%+v", op), m.Bytes(s), x.does(op))
		list(t, fmt.Sprintf("%+v: all", op), all(m.View()), all(x.s)...)
	}
	d.Fuse(0)
	replies(t, "no power", m.Bytes("\x04\x01"), engine.Reply{Err: api.ErrStorage})
	replies(t, "shut", m.Bytes("\x04\x01"), engine.Reply{Err: api.ErrReadOnly})
	replies(t, "shut, and wrong", m.Bytes("\x04"), engine.Reply{Err: api.ErrShort})
}
