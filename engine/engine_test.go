package engine_test

import (
	"fmt"
	"math"
	"slices"
	"testing"

	"bourse/api"
	"bourse/book"
	"bourse/engine"
	"bourse/ledger"
	"bourse/order"
	"bourse/overlay"
	"bourse/schema"
)

const (
	greatest = math.MaxInt64
	least    = math.MinInt64
	most     = 1 << 40 // of a price, a size, a time
)

// want: a test fails, if something is another thing than was wanted.
func want[T comparable](t *testing.T, what string, got, wanted T) {
	t.Helper()
	if got != wanted {
		t.Errorf("%s: %+v, wanted %+v", what, got, wanted)
	}
}

// list: as want, of lists.
func list[T comparable](t *testing.T, what string, got, wanted []T) {
	t.Helper()
	if !slices.Equal(got, wanted) {
		t.Errorf("%s: %+v, wanted %+v", what, got, wanted)
	}
}

// all: the pairs that there are.
func all(r overlay.Reader) []api.Pair { return slices.Collect(r.Range("", "")) }

// stand: as list, of all pairs that there are.
func stand(t *testing.T, what string, r overlay.Reader, wanted []api.Pair) {
	t.Helper()
	if got := all(r); !slices.Equal(got, wanted) {
		t.Errorf("%s: what stands: %q, wanted %q", what, got, wanted)
	}
}

// call is an operation.
type call struct {
	what string
	do   func(engine.Engine) engine.Reply
}

func place(a engine.Ask) call {
	return call{fmt.Sprintf("Place of %+v", a), func(g engine.Engine) engine.Reply { return g.Place(a) }}
}

func cancel(account, id uint64) call {
	return call{fmt.Sprint("Cancel ", account, " ", id), func(g engine.Engine) engine.Reply { return g.Cancel(account, id) }}
}

func amend(account, id uint64, price, size int64) call {
	return call{fmt.Sprint("Amend ", account, " ", id, " ", price, " ", size), func(g engine.Engine) engine.Reply { return g.Amend(account, id, price, size) }}
}

func tick(n uint64) call {
	return call{fmt.Sprint("Tick ", n), func(g engine.Engine) engine.Reply { return g.Tick(n) }}
}

func deposit(account uint64, thing int, n int64) call {
	return call{fmt.Sprint("Deposit ", account, " ", thing, " ", n), func(g engine.Engine) engine.Reply { return g.Deposit(account, thing, n) }}
}

func withdraw(account uint64, thing int, n int64) call {
	return call{fmt.Sprint("Withdraw ", account, " ", thing, " ", n), func(g engine.Engine) engine.Reply { return g.Withdraw(account, thing, n) }}
}

func depth(side, n int) call {
	return call{fmt.Sprint("Depth ", side, " ", n), func(g engine.Engine) engine.Reply { return g.Depth(side, n) }}
}

func status(id uint64) call {
	return call{fmt.Sprint("Status ", id), func(g engine.Engine) engine.Reply { return g.Status(id) }}
}

func money(account uint64) call {
	return call{fmt.Sprint("Money ", account), func(g engine.Engine) engine.Reply { return g.Money(account) }}
}

// limit: what a Limit order asks for.
func limit(account uint64, side int, price, size int64) engine.Ask {
	return engine.Ask{Account: account, Side: side, Type: api.Limit, Price: price, Size: size}
}

// as: the same, of another type.
func as(kind int, a engine.Ask) engine.Ask {
	a.Type = kind
	if kind == api.Market {
		a.Price = 0
	}
	return a
}

// until: the same, with an expiry.
func until(at uint64, a engine.Ask) engine.Ask {
	a.Expiry = at
	return a
}

// told: a reply as text, in which a list without elements is one thing.
func told(r engine.Reply) string { return fmt.Sprintf("%+v", r) }

// answers: an operation's reply; of an error nothing is changed.
func answers(t *testing.T, o *overlay.Overlay, c call, wanted engine.Reply) {
	t.Helper()
	mark, ahead := o.Mark(), all(o)
	want(t, c.what, told(c.do(engine.On(o))), told(wanted))
	if wanted.Err != api.OK {
		want(t, c.what+": Mark", o.Mark(), mark)
		stand(t, c.what, o, ahead)
	}
}

// refused: an operation's error, alone.
func refused(t *testing.T, o *overlay.Overlay, c call, fault api.Errno) {
	t.Helper()
	answers(t, o, c, engine.Reply{Err: fault})
}

// reads: an operation's reply, and nothing is changed.
func reads(t *testing.T, o *overlay.Overlay, c call, wanted engine.Reply) {
	t.Helper()
	mark := o.Mark()
	answers(t, o, c, wanted)
	want(t, c.what+": Mark", o.Mark(), mark)
}

// done: operations that must be.
func done(t *testing.T, o *overlay.Overlay, calls ...call) {
	t.Helper()
	for _, c := range calls {
		want(t, c.what, c.do(engine.On(o)).Err, api.OK)
	}
}

// market: what operations over nothing leave.
func market(t *testing.T, calls ...call) *overlay.Overlay {
	t.Helper()
	o := overlay.Over(nil)
	done(t, o, calls...)
	return o
}

// owned is whose, and what.
type owned struct {
	account uint64
	thing   int
}

// state is all that a market has.
type state struct {
	balances map[owned]api.Balance
	orders   []api.Order
	numbers  map[string]uint64
}

// pairs: all that stands of a state, by the layers below.
func (s state) pairs() []api.Pair {
	o := overlay.Over(nil)
	for of, b := range s.balances {
		if b != (api.Balance{}) {
			o.Put(schema.Balance(of.account, of.thing), order.Money(b))
		}
	}
	for name, n := range s.numbers {
		ledger.Set(o, name, n)
	}
	for _, x := range s.orders {
		if book.Put(o, x) != api.OK {
			panic(fmt.Sprintf("no order: %+v", x))
		}
	}
	return all(o)
}

// stands: a market's state.
func stands(t *testing.T, what string, o *overlay.Overlay, s state) {
	t.Helper()
	stand(t, what, o, s.pairs())
}

// has: what an account has, free and held.
func has(t *testing.T, o *overlay.Overlay, account uint64, cash, goods api.Balance) {
	t.Helper()
	reads(t, o, money(account), engine.Reply{Money: [2]api.Balance{cash, goods}})
}

// TestExample: the chapter's.
func TestExample(t *testing.T) {
	o := market(t, deposit(1, api.Cash, 10), deposit(2, api.Goods, 5), place(limit(2, api.Sell, 2, 5)))
	answers(t, o, place(limit(1, api.Buy, 3, 3)), engine.Reply{
		ID:     2,
		Order:  api.Order{ID: 2, Account: 1, Side: api.Buy, Price: 3, Size: 3, Rank: 2, State: api.Filled},
		Trades: []api.Trade{{Maker: 1, Taker: 2, Price: 2, Size: 3}},
	})
	has(t, o, 1, api.Balance{Free: 4}, api.Balance{Free: 3})
	has(t, o, 2, api.Balance{Free: 6}, api.Balance{Held: 2})
	stands(t, "the example", o, state{
		balances: map[owned]api.Balance{{1, 1}: {Free: 4}, {1, 2}: {Free: 3}, {2, 1}: {Free: 6}, {2, 2}: {Held: 2}},
		orders: []api.Order{
			{ID: 1, Account: 2, Side: api.Sell, Price: 2, Size: 5, Left: 2, Rank: 1, State: api.Resting},
			{ID: 2, Account: 1, Side: api.Buy, Price: 3, Size: 3, Rank: 2, State: api.Filled},
		},
		numbers: map[string]uint64{"net1": 10, "net2": 5, "id": 2, "rank": 2},
	})
}

// TestExamplesOfTheWhole: the document's first eight, one behind the other.
func TestExamplesOfTheWhole(t *testing.T) {
	o := market(t, deposit(1, api.Cash, 500), deposit(2, api.Goods, 5))
	has(t, o, 1, api.Balance{Free: 500}, api.Balance{})
	sell := api.Order{ID: 1, Account: 2, Side: api.Sell, Price: 10, Size: 5, Left: 5, Rank: 1, State: api.Resting}
	answers(t, o, place(limit(2, api.Sell, 10, 5)), engine.Reply{ID: 1, Order: sell})
	has(t, o, 2, api.Balance{}, api.Balance{Held: 5})
	answers(t, o, place(limit(1, api.Buy, 12, 3)), engine.Reply{
		ID:     2,
		Order:  api.Order{ID: 2, Account: 1, Side: api.Buy, Price: 12, Size: 3, Rank: 2, State: api.Filled},
		Trades: []api.Trade{{Maker: 1, Taker: 2, Price: 10, Size: 3}},
	})
	has(t, o, 1, api.Balance{Free: 470}, api.Balance{Free: 3})
	refused(t, o, place(as(api.FOK, limit(1, api.Buy, 10, 9))), api.ErrKill)
	refused(t, o, place(as(api.PostOnly, limit(1, api.Buy, 10, 1))), api.ErrCross)
	answers(t, o, place(as(api.Market, limit(1, api.Buy, 0, 9))), engine.Reply{
		ID:     3,
		Order:  api.Order{ID: 3, Account: 1, Side: api.Buy, Price: most, Size: 9, Left: 7, Rank: 3, State: api.Cancelled},
		Trades: []api.Trade{{Maker: 1, Taker: 3, Price: 10, Size: 2}},
	})
	has(t, o, 1, api.Balance{Free: 450}, api.Balance{Free: 5})
	buy := api.Order{ID: 4, Account: 1, Side: api.Buy, Price: 4, Size: 6, Left: 6, Rank: 4, Expiry: 5, State: api.Resting}
	answers(t, o, place(until(5, limit(1, api.Buy, 4, 6))), engine.Reply{ID: 4, Order: buy})
	buy.Size, buy.Left = 5, 5
	answers(t, o, amend(1, 4, 4, 5), engine.Reply{Order: buy})
	buy.Price, buy.Rank = 5, 5
	answers(t, o, amend(1, 4, 5, 5), engine.Reply{Order: buy})
	has(t, o, 1, api.Balance{Free: 425, Held: 25}, api.Balance{Free: 5})
	answers(t, o, tick(4), engine.Reply{N: 4})
	answers(t, o, tick(1), engine.Reply{Gone: []uint64{4}, N: 5})
	has(t, o, 1, api.Balance{Free: 450}, api.Balance{Free: 5})
	buy.State = api.Expired
	reads(t, o, status(4), engine.Reply{Order: buy})
}
