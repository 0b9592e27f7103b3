package report_test

import (
	"fmt"
	"math"
	"testing"

	"bourse/api"
	"bourse/book"
	"bourse/check"
	"bourse/dump"
	"bourse/edit"
	"bourse/engine"
	"bourse/report"
	"bourse/version"
)

const (
	greatest = math.MaxInt64
	least    = math.MinInt64
	end      = math.MaxUint64
)

// want: a test fails, if something is another thing than was wanted.
func want[T comparable](t *testing.T, what string, got, wanted T) {
	t.Helper()
	if got != wanted {
		t.Errorf("%s: %v, wanted %v", what, got, wanted)
	}
}

// text: as want, of a text, all of whose bytes are plain (P32.4).
func text(t *testing.T, what, got, wanted string) {
	t.Helper()
	if got != wanted {
		t.Errorf("%s: %q, wanted %q", what, got, wanted)
	}
	for i := range len(got) {
		if got[i] != 10 && (got[i] < 32 || got[i] > 126) {
			t.Errorf("%s: %q: the byte %d", what, got, got[i])
		}
	}
}

// TestOrder: P32.1.
func TestOrder(t *testing.T) {
	o := api.Order{ID: 3, Account: 1, Side: 2, Price: 10, Size: 5, Left: 2, Rank: 7, Expiry: 9, State: 1}
	for wanted, change := range map[string]func(o *api.Order){
		"#3 sell 2/5 at 10 of 1 resting until 9":                     func(o *api.Order) {},
		"#3 sell 2/5 at 10 of 1 resting":                             func(o *api.Order) { o.Expiry = 0 },
		"#3 sell 2/5 at 10 of 1 resting until 18446744073709551615":  func(o *api.Order) { o.Expiry = end },
		"#3 buy 2/5 at 10 of 1 resting until 9":                      func(o *api.Order) { o.Side = 1 },
		"#3 side0 2/5 at 10 of 1 resting until 9":                    func(o *api.Order) { o.Side = 0 },
		"#3 side3 2/5 at 10 of 1 resting until 9":                    func(o *api.Order) { o.Side = 3 },
		"#3 side-1 2/5 at 10 of 1 resting until 9":                   func(o *api.Order) { o.Side = -1 },
		"#3 side9223372036854775807 2/5 at 10 of 1 resting until 9":  func(o *api.Order) { o.Side = math.MaxInt },
		"#3 side-9223372036854775808 2/5 at 10 of 1 resting until 9": func(o *api.Order) { o.Side = math.MinInt },
		"#3 sell 2/5 at 10 of 1 filled until 9":                      func(o *api.Order) { o.State = 2 },
		"#3 sell 2/5 at 10 of 1 cancelled until 9":                   func(o *api.Order) { o.State = 3 },
		"#3 sell 2/5 at 10 of 1 expired until 9":                     func(o *api.Order) { o.State = 4 },
		"#3 sell 2/5 at 10 of 1 state0 until 9":                      func(o *api.Order) { o.State = 0 },
		"#3 sell 2/5 at 10 of 1 state5 until 9":                      func(o *api.Order) { o.State = 5 },
		"#3 sell 2/5 at 10 of 1 state-2 until 9":                     func(o *api.Order) { o.State = -2 },
		"#3 sell 2/5 at 10 of 1 state-9223372036854775808 until 9":   func(o *api.Order) { o.State = math.MinInt },
		"#3 sell 2/5 at 10 of 1 state4294967297 until 9":             func(o *api.Order) { o.State = 1<<32 + 1 },
		"#0 sell 2/5 at 10 of 1 resting until 9":                     func(o *api.Order) { o.ID = 0 },
		"#18446744073709551615 sell 2/5 at 10 of 1 resting until 9":  func(o *api.Order) { o.ID = end },
		"#3 sell 2/5 at 10 of 0 resting until 9":                     func(o *api.Order) { o.Account = 0 },
		"#3 sell 2/5 at 10 of 9223372036854775808 resting until 9":   func(o *api.Order) { o.Account = 1 << 63 },
		"#3 sell 0/5 at 10 of 1 resting until 9":                     func(o *api.Order) { o.Left = 0 },
		"#3 sell -2/5 at 10 of 1 resting until 9":                    func(o *api.Order) { o.Left = -2 },
		"#3 sell 2/1099511627776 at 10 of 1 resting until 9":         func(o *api.Order) { o.Size = 1 << 40 },
		"#3 sell 2/-9223372036854775808 at 10 of 1 resting until 9":  func(o *api.Order) { o.Size = least },
		"#3 sell 2/5 at 9223372036854775807 of 1 resting until 9":    func(o *api.Order) { o.Price = greatest },
		"#3 sell 2/5 at -10 of 1 resting until 9":                    func(o *api.Order) { o.Price = -10 },
		"#4 buy 7/8 at 5 of 6 filled":                                func(o *api.Order) { *o = api.Order{ID: 4, Account: 6, Side: 1, Price: 5, Size: 8, Left: 7, State: 2} },
		"#0 side0 0/0 at 0 of 0 state0":                              func(o *api.Order) { *o = api.Order{} },
	} {
		x := o
		change(&x)
		text(t, fmt.Sprintf("%+v", x), report.Order(x), wanted)
	}
	x := o
	x.Rank = 0
	text(t, "whatever the rank", report.Order(x), report.Order(o))
}

// TestTrade: P32.1.
func TestTrade(t *testing.T) {
	for wanted, x := range map[string]api.Trade{
		"3 at 2 2>1": {Maker: 1, Taker: 2, Price: 2, Size: 3},
		"7 at 8 5>6": {Maker: 6, Taker: 5, Price: 8, Size: 7},
		"0 at 0 0>0": {},
		"9223372036854775807 at -9223372036854775808 18446744073709551615>9223372036854775808": {Maker: 1 << 63, Taker: end, Price: least, Size: greatest},
		"-1 at -2 1>10": {Maker: 10, Taker: 1, Price: -2, Size: -1},
	} {
		text(t, fmt.Sprintf("%+v", x), report.Trade(x), wanted)
	}
}

// full: a reply that has something of everything.
func full() engine.Reply {
	return engine.Reply{
		ID:     8,
		Order:  api.Order{ID: 3, Account: 1, Side: 2, Price: 10, Size: 5, Left: 2, Expiry: 9, State: 1},
		Trades: []api.Trade{{Maker: 1, Taker: 3, Price: 10, Size: 3}, {Maker: 2, Taker: 3, Price: 11, Size: 4}},
		Gone:   []uint64{4, 5, 4},
		Money:  [2]api.Balance{{Free: 1, Held: 2}, {Free: 3, Held: 4}},
		Levels: []book.Level{{Price: 6, Size: 7}, {Price: 5, Size: 1}},
		N:      7,
	}
}

// TestReply: P32.2.
func TestReply(t *testing.T) {
	for wanted, r := range map[string]engine.Reply{
		"ok":                                    {},
		"ok\n  #3 buy 2/5 at 10 of 1 resting":   {Order: api.Order{ID: 3, Account: 1, Side: 1, Price: 10, Size: 5, Left: 2, State: 1}},
		"ok\n  3 at 10 3>1":                     {Trades: []api.Trade{{Maker: 1, Taker: 3, Price: 10, Size: 3}}},
		"ok\n  3 at 10 3>1\n  0 at 0 0>0":       {Trades: []api.Trade{{Maker: 1, Taker: 3, Price: 10, Size: 3}, {}}},
		"ok\n  gone 4":                          {Gone: []uint64{4}},
		"ok\n  gone 0":                          {Gone: []uint64{0}},
		"ok\n  gone 5 18446744073709551615 0 5": {Gone: []uint64{5, end, 0, 5}},
		"ok\n  cash 5 0 goods 0 0":              {Money: [2]api.Balance{{Free: 5}}},
		"ok\n  cash 0 5 goods 0 0":              {Money: [2]api.Balance{{Held: 5}}},
		"ok\n  cash 0 0 goods 5 0":              {Money: [2]api.Balance{{}, {Free: 5}}},
		"ok\n  cash 0 0 goods 0 5":              {Money: [2]api.Balance{{}, {Held: 5}}},
		"ok\n  cash 1 2 goods 3 4":              {Money: [2]api.Balance{{Free: 1, Held: 2}, {Free: 3, Held: 4}}},
		"ok\n  cash -1 1 goods 0 0":             {Money: [2]api.Balance{{Free: -1, Held: 1}}},
		"ok\n  7 at 6":                          {Levels: []book.Level{{Price: 6, Size: 7}}},
		"ok\n  7 at 6\n  0 at 0\n  -7 at -6":    {Levels: []book.Level{{Price: 6, Size: 7}, {}, {Price: -6, Size: -7}}},
		"ok\n  n 7":                             {N: 7},
		"ok\n  n 18446744073709551615":          {N: end},
		"ok\n  #3 sell 2/5 at 10 of 1 resting until 9\n  3 at 10 3>1\n  4 at 11 3>2\n  gone 4 5 4\n  cash 1 2 goods 3 4\n  7 at 6\n  1 at 5\n  n 7": full(),
	} {
		text(t, fmt.Sprintf("%+v", r), report.Reply(r), wanted)
	}
	text(t, "the number alone", report.Reply(engine.Reply{ID: 5}), "ok")
	text(t, "an order without a number", report.Reply(engine.Reply{ID: 5, Order: api.Order{Account: 1, Side: 1, Price: 2, Size: 3, Left: 4, Rank: 5, Expiry: 6, State: 1}}), "ok")
	text(t, "no elements", report.Reply(engine.Reply{Trades: []api.Trade{}, Gone: []uint64{}, Levels: []book.Level{}}), "ok")
}

// TestReplyError: P32.2, with an error it alone is told.
func TestReplyError(t *testing.T) {
	for e, wanted := range map[api.Errno]string{
		api.ErrNil: "error 1", api.ErrFunds: "error 26", api.ErrStorage: "error 35", api.ErrSyntax: "error 60", 7: "error 7", 1000: "error 1000", -1: "error -1",
		math.MaxInt: "error 9223372036854775807", math.MinInt: "error -9223372036854775808",
	} {
		text(t, wanted, report.Reply(engine.Reply{Err: e}), wanted)
		r := full()
		r.Err = e
		text(t, wanted+" beside all else", report.Reply(r), wanted)
	}
}

// TestDump: P32.3.
func TestDump(t *testing.T) {
	order := api.Order{ID: 3, Account: 1, Side: 2, Price: 10, Size: 5, Left: 2, Expiry: 9, State: 1}
	for wanted, d := range map[string]dump.Dump{
		"clock 0 net 0 0\n": {},
		"clock 1 net 5 6\n": {Clock: 1, IDs: 2, Ranks: 3, Net: [2]uint64{5, 6}},
		"clock 18446744073709551615 net 9223372036854775808 18446744073709551614\n": {Clock: end, Net: [2]uint64{1 << 63, end - 1}},
		"clock 1 net 5 6\naccount 2 cash 5 0\n":                                     {Clock: 1, Net: [2]uint64{5, 6}, Accounts: []dump.Account{{ID: 2, Thing: 1, Money: api.Balance{Free: 5}}}},
		"clock 0 net 0 0\naccount 2 goods 0 5\naccount 1 cash 3 4\naccount 2 goods 0 5\n": {Accounts: []dump.Account{
			{ID: 2, Thing: 2, Money: api.Balance{Held: 5}}, {ID: 1, Thing: 1, Money: api.Balance{Free: 3, Held: 4}}, {ID: 2, Thing: 2, Money: api.Balance{Held: 5}}}},
		"clock 0 net 0 0\naccount 0 thing0 0 0\naccount 18446744073709551615 thing3 -1 -9223372036854775808\naccount 1 thing-1 9223372036854775807 0\naccount 1 thing-9223372036854775808 0 0\n": {Accounts: []dump.Account{
			{}, {ID: end, Thing: 3, Money: api.Balance{Free: -1, Held: least}}, {ID: 1, Thing: -1, Money: api.Balance{Free: greatest}}, {ID: 1, Thing: math.MinInt}}},
		"clock 0 net 0 0\n#3 sell 2/5 at 10 of 1 resting until 9\n":                                {Orders: []api.Order{order}},
		"clock 0 net 0 0\n#3 sell 2/5 at 10 of 1 resting until 9\n#0 side0 0/0 at 0 of 0 state0\n": {Orders: []api.Order{order, {}}},
		"clock 4 net 5 6\naccount 2 cash 5 0\naccount 2 goods 6 0\n#3 sell 2/5 at 10 of 1 resting until 9\n#4 buy 0/1 at 2 of 3 filled\n": {Clock: 4, IDs: 7, Ranks: 8, Net: [2]uint64{5, 6},
			Accounts: []dump.Account{{ID: 2, Thing: 1, Money: api.Balance{Free: 5}}, {ID: 2, Thing: 2, Money: api.Balance{Free: 6}}},
			Orders:   []api.Order{order, {ID: 4, Account: 3, Side: 1, Price: 2, Size: 1, State: 2}}},
	} {
		text(t, fmt.Sprintf("%+v", d), report.Dump(d), wanted)
	}
}

// TestVersion: P32.3, whatever its files' keys are.
func TestVersion(t *testing.T) {
	file := func(number, count uint64) edit.File {
		return edit.File{Number: number, Size: 1000 + number, Count: count, Least: "\x00\xff", Most: "\xff\n"}
	}
	for wanted, levels := range map[string][4][]edit.File{
		"":                               {},
		"level 0 4:9\n":                  {{file(4, 9)}},
		"level 1 4:9\n":                  {1: {file(4, 9)}},
		"level 3 4:9\n":                  {3: {file(4, 9)}},
		"level 0 7:1 6:2 5:3\n":          {{file(7, 1), file(6, 2), file(5, 3)}},
		"level 0 1:2\nlevel 2 3:4 0:0\n": {0: {file(1, 2)}, 1: {}, 2: {file(3, 4), {}}},
		"level 0 0:1\nlevel 1 1:2 1:2\nlevel 2 2:3\nlevel 3 18446744073709551615:9223372036854775808\n": {{file(0, 1)}, {file(1, 2), file(1, 2)}, {file(2, 3)}, {file(end, 1<<63)}},
	} {
		text(t, fmt.Sprintf("%q", wanted), report.Version(version.Version{Levels: levels}), wanted)
	}
}

// TestFindings: P32.3.
func TestFindings(t *testing.T) {
	text(t, "nothing", report.Findings(nil), "")
	text(t, "no elements", report.Findings([]check.Finding{}), "")
	for wanted, l := range map[string][]check.Finding{
		"wrong 2 1 0 1\n": {{Kind: 2, Account: 1, Thing: 1}},
		"wrong 1 2 3 4\n": {{Kind: 1, Account: 2, ID: 3, Thing: 4}},
		"wrong 1 0 0 2\nwrong 5 0 7 0\nwrong 1 0 0 2\n":                            {{Kind: 1, Thing: 2}, {Kind: 5, ID: 7}, {Kind: 1, Thing: 2}},
		"wrong 0 0 0 0\nwrong 0 0 0 0\n":                                           {{}, {}},
		"wrong -1 18446744073709551615 9223372036854775808 -9223372036854775808\n": {{Kind: -1, Account: end, ID: 1 << 63, Thing: math.MinInt}},
	} {
		text(t, fmt.Sprintf("%+v", l), report.Findings(l), wanted)
	}
}
