package report_test

import (
	"fmt"
	"math"
	"reflect"
	"strings"
	"testing"

	"bourse/api"
	"bourse/book"
	"bourse/check"
	"bourse/command"
	"bourse/dump"
	"bourse/edit"
	"bourse/engine"
	"bourse/overlay"
	"bourse/report"
	"bourse/version"
)

// dice: numbers that look like chance, the same each time.
type dice uint64

func (d *dice) below(n int) int {
	*d = *d*6364136223846793005 + 1442695040888963407
	x := uint64(*d)
	return int((x ^ x>>29) >> 20 % uint64(n))
}

// number: small ones, mostly, and the ends.
func (d *dice) number() uint64 {
	switch d.below(6) {
	case 0:
		return []uint64{1 << 31, 1 << 32, 1 << 40, greatest, 1 << 63, 1<<63 + 1, end - 1, end}[d.below(8)]
	case 1:
		return uint64(d.below(100000))
	case 2:
		return uint64(-d.below(5))
	}
	return uint64(d.below(6))
}

func (d *dice) order() api.Order {
	return api.Order{ID: d.number(), Account: d.number(), Side: int(d.number()), Price: int64(d.number()), Size: int64(d.number()), Left: int64(d.number()), Rank: d.number(), Expiry: d.number(), State: int(d.number())}
}

func (d *dice) balance() api.Balance {
	return api.Balance{Free: int64(d.number()), Held: int64(d.number())}
}

// some: a list of few things.
func some[T any](d *dice, one func() T) []T {
	var l []T
	for range d.below(4) {
		l = append(l, one())
	}
	return l
}

func (d *dice) reply() engine.Reply {
	r := engine.Reply{ID: d.number()}
	if d.below(4) == 0 {
		r.Err = api.Errno(d.number())
	}
	if d.below(2) == 0 {
		r.Order = d.order()
	}
	r.Trades = some(d, func() api.Trade {
		return api.Trade{Maker: d.number(), Taker: d.number(), Price: int64(d.number()), Size: int64(d.number())}
	})
	r.Gone = some(d, d.number)
	if d.below(2) == 0 {
		r.Money = [2]api.Balance{d.balance(), d.balance()}
	}
	r.Levels = some(d, func() book.Level { return book.Level{Price: int64(d.number()), Size: int64(d.number())} })
	if d.below(2) == 0 {
		r.N = d.number()
	}
	return r
}

// of: a number's name, told once more.
func of(word string, n int, names string) string {
	for i, name := range strings.Fields(names) {
		if n == i+1 {
			return name
		}
	}
	return fmt.Sprint(word, n)
}

func orderLine(o api.Order) string {
	s := fmt.Sprintf("#%d %s %d/%d at %d of %d %s", o.ID, of("side", o.Side, "buy sell"), o.Left, o.Size, o.Price, o.Account, of("state", o.State, "resting filled cancelled expired"))
	if o.Expiry > 0 {
		s += fmt.Sprintf(" until %d", o.Expiry)
	}
	return s
}

func replyLines(r engine.Reply) string {
	if r.Err != 0 {
		return fmt.Sprintf("error %d", int(r.Err))
	}
	s := "ok"
	if r.Order.ID > 0 {
		s += "\n  " + orderLine(r.Order)
	}
	for _, x := range r.Trades {
		s += fmt.Sprintf("\n  %d at %d %d>%d", x.Size, x.Price, x.Taker, x.Maker)
	}
	if len(r.Gone) > 0 {
		s += "\n  gone " + strings.Trim(fmt.Sprint(r.Gone), "[]")
	}
	if m := r.Money; m[0].Free != 0 || m[0].Held != 0 || m[1].Free != 0 || m[1].Held != 0 {
		s += fmt.Sprintf("\n  cash %d %d goods %d %d", m[0].Free, m[0].Held, m[1].Free, m[1].Held)
	}
	for _, x := range r.Levels {
		s += fmt.Sprintf("\n  %d at %d", x.Size, x.Price)
	}
	if r.N > 0 {
		s += fmt.Sprintf("\n  n %d", r.N)
	}
	return s
}

func dumpLines(d dump.Dump) string {
	s := fmt.Sprintf("clock %d net %d %d\n", d.Clock, d.Net[0], d.Net[1])
	for _, a := range d.Accounts {
		s += fmt.Sprintf("account %d %s %d %d\n", a.ID, of("thing", a.Thing, "cash goods"), a.Money.Free, a.Money.Held)
	}
	for _, o := range d.Orders {
		s += orderLine(o) + "\n"
	}
	return s
}

// TestModel: P32.1 to P32.4, by dice, against lines that are told once more; what is handed in stays.
func TestModel(t *testing.T) {
	d := dice(32)
	for range 20000 {
		r := d.reply()
		text(t, fmt.Sprintf("%+v", r), report.Reply(r), replyLines(r))
		text(t, fmt.Sprintf("%+v", r.Order), report.Order(r.Order), orderLine(r.Order))
		all := dump.Dump{Clock: d.number(), IDs: d.number(), Ranks: d.number(), Net: [2]uint64{d.number(), d.number()}, Orders: some(&d, d.order)}
		all.Accounts = some(&d, func() dump.Account { return dump.Account{ID: d.number(), Thing: int(d.number()), Money: d.balance()} })
		text(t, fmt.Sprintf("%+v", all), report.Dump(all), dumpLines(all))
		var v version.Version
		s := ""
		for i := range v.Levels {
			v.Levels[i] = some(&d, func() edit.File {
				return edit.File{Number: d.number(), Size: d.number(), Count: d.number(), Least: "\x01", Most: "\x80"}
			})
			for j, f := range v.Levels[i] {
				if j == 0 {
					s += fmt.Sprint("level ", i)
				}
				s += fmt.Sprint(" ", f.Number, ":", f.Count)
			}
			if len(v.Levels[i]) > 0 {
				s += "\n"
			}
		}
		text(t, fmt.Sprintf("%+v", v), report.Version(v), s)
		l := some(&d, func() check.Finding {
			return check.Finding{Kind: int(d.number()), Account: d.number(), ID: d.number(), Thing: int(d.number())}
		})
		s = ""
		for _, f := range l {
			s += fmt.Sprintln("wrong", f.Kind, f.Account, f.ID, f.Thing)
		}
		text(t, fmt.Sprintf("%+v", l), report.Findings(l), s)
		if t.Failed() {
			return
		}
	}
}

// TestStays: what is handed in isn't changed, spare room included.
func TestStays(t *testing.T) {
	spare := func() (engine.Reply, dump.Dump, version.Version, []check.Finding) {
		r := full()
		r.Gone = append(make([]uint64, 0, 9), 4, 5)
		d := dump.Dump{Accounts: make([]dump.Account, 2, 9), Orders: make([]api.Order, 2, 9)}
		v := version.Version{Levels: [4][]edit.File{make([]edit.File, 2, 9)}}
		return r, d, v, make([]check.Finding, 2, 9)
	}
	r, d, v, l := spare()
	report.Reply(r)
	report.Dump(d)
	report.Version(v)
	report.Findings(l)
	x, y, z, m := spare()
	r.Gone, x.Gone = r.Gone[:9], x.Gone[:9]
	d.Accounts, y.Accounts = d.Accounts[:9], y.Accounts[:9]
	d.Orders, y.Orders = d.Orders[:9], y.Orders[:9]
	v.Levels[0], z.Levels[0] = v.Levels[0][:9], z.Levels[0][:9]
	want(t, "as they were", reflect.DeepEqual(r, x) && reflect.DeepEqual(d, y) && reflect.DeepEqual(v, z) && reflect.DeepEqual(l[:9], m[:9]), true)
}

// TestMany: lists of many things.
func TestMany(t *testing.T) {
	var r engine.Reply
	var d dump.Dump
	var v version.Version
	for i := range 70000 {
		r.Gone = append(r.Gone, uint64(i))
		d.Accounts = append(d.Accounts, dump.Account{ID: uint64(i), Thing: 1 + i%2})
		v.Levels[2] = append(v.Levels[2], edit.File{Number: uint64(i), Count: 1})
	}
	text(t, "gone", report.Reply(r), replyLines(r))
	want(t, "a dump's lines", strings.Count(report.Dump(d), "\n"), 70001)
	want(t, "a version's files", strings.Count(report.Version(v), ":1"), 70000)
}

// TestMarket: P32.1 to P32.4, of what a market says.
func TestMarket(t *testing.T) {
	v := overlay.Over(nil)
	g := engine.On(v)
	said := ""
	for _, o := range []command.Op{
		{Kind: command.Deposit, Account: 1, Thing: 1, Size: 500}, {Kind: command.Deposit, Account: 2, Thing: 2, Size: 50},
		{Kind: command.Place, Account: 2, Side: 2, Type: 1, Price: 10, Size: 5, Expiry: 4}, {Kind: command.Place, Account: 1, Side: 1, Type: 1, Price: 12, Size: 3},
		{Kind: command.Place, Account: 1, Side: 1, Type: 5, Price: 12, Size: 3}, {Kind: command.Depth, Side: 2, Most: 5}, {Kind: command.Money, Account: 1}, {Kind: command.Money, Account: 9},
		{Kind: command.Tick, N: 4}, {Kind: command.Cancel, Account: 2, ID: 1}, {Kind: command.Status, ID: 1},
		{Kind: command.Place, Account: 1, Side: 1, Type: 1, Price: 7, Size: 2},
	} {
		said += report.Reply(command.Do(g, o)) + "\n"
	}
	text(t, "a market", said, strings.Join([]string{
		"ok", "ok",
		"ok", "  #1 sell 5/5 at 10 of 2 resting until 4",
		"ok", "  #2 buy 0/3 at 12 of 1 filled", "  3 at 10 2>1",
		"error 32",
		"ok", "  2 at 10",
		"ok", "  cash 470 0 goods 3 0",
		"ok",
		"ok", "  gone 1", "  n 4",
		"error 31",
		"ok", "  #1 sell 2/5 at 10 of 2 expired until 4",
		"ok", "  #3 buy 2/2 at 7 of 1 resting",
	}, "\n")+"\n")
	d, e := dump.Of(v)
	want(t, "Of", e, api.OK)
	text(t, "all of it", report.Dump(d), "clock 4 net 500 50\naccount 1 cash 456 14\naccount 1 goods 3 0\naccount 2 cash 30 0\naccount 2 goods 47 0\n"+
		"#1 sell 2/5 at 10 of 2 expired until 4\n#2 buy 0/3 at 12 of 1 filled\n#3 buy 2/2 at 7 of 1 resting\n")
	found, e := check.Of(v)
	want(t, "check.Of", e, api.OK)
	text(t, "nothing wrong", report.Findings(found), "")
	d.Net[1], d.Accounts[0].Money.Held, d.IDs = 51, math.MaxInt32, 2
	o := overlay.Over(nil)
	want(t, "Lay", d.Lay(o), api.OK)
	found, _ = check.Of(o)
	text(t, "wrong", report.Findings(found), "wrong 1 0 0 1\nwrong 1 0 0 2\nwrong 2 1 0 1\nwrong 5 0 3 0\n")
}
