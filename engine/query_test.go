package engine_test

import (
	"fmt"
	"math"
	"testing"

	"bourse/api"
	"bourse/book"
	"bourse/engine"
	"bourse/overlay"
)

// TestDepth: P26.4, ErrSide, then ErrArg; the first so many prices.
func TestDepth(t *testing.T) {
	calls := []call{deposit(1, api.Cash, greatest), deposit(2, api.Goods, greatest)}
	levels := map[int][]book.Level{}
	for i := range int64(40) {
		calls = append(calls, place(limit(1, api.Buy, 40-i, 3+i)), place(limit(2, api.Sell, 50+i, 1)), place(limit(2, api.Sell, 50+i, 2*i+1)))
		levels[api.Buy] = append(levels[api.Buy], book.Level{Price: 40 - i, Size: 3 + i})
		levels[api.Sell] = append(levels[api.Sell], book.Level{Price: 50 + i, Size: 2*i + 2})
	}
	for what, o := range map[string]*overlay.Overlay{"many": market(t, calls...), "none": overlay.Over(nil)} {
		for _, n := range []int{least, -1, 0, 33, 1 << 32, greatest} {
			for _, side := range []int{0, 3, -1, 1 + 1<<32, least, greatest} {
				reads(t, o, depth(side, n), engine.Reply{Err: api.ErrSide})
				reads(t, o, depth(side, 5), engine.Reply{Err: api.ErrSide})
			}
			reads(t, o, depth(api.Buy, n), engine.Reply{Err: api.ErrArg})
			reads(t, o, depth(api.Sell, n), engine.Reply{Err: api.ErrArg})
		}
		for side, l := range levels {
			for n := 1; n <= 32; n++ {
				wanted := l[:n]
				if what == "none" {
					wanted = nil
				}
				reads(t, o, depth(side, n), engine.Reply{Levels: wanted})
			}
		}
	}
}

// TestStatus: P26.4, an order in any state, whoever's it is; ErrNone.
func TestStatus(t *testing.T) {
	o := lane(t)
	for i, x := range laid(t, o) {
		reads(t, o, status(uint64(i+1)), engine.Reply{Order: x})
	}
	for _, id := range []uint64{0, 7, 1 << 32, math.MaxUint64} {
		reads(t, o, status(id), engine.Reply{Err: api.ErrNone})
	}
	reads(t, overlay.Over(nil), status(1), engine.Reply{Err: api.ErrNone})
}

// TestMoney: P26.4, of Cash, of Goods; ErrArg.
func TestMoney(t *testing.T) {
	o := lane(t)
	reads(t, o, money(0), engine.Reply{Err: api.ErrArg})
	reads(t, o, money(1), engine.Reply{Money: [2]api.Balance{{Free: 18}, {Free: 2, Held: 5}}})
	reads(t, o, money(2), engine.Reply{Money: [2]api.Balance{{Free: 62, Held: 20}, {Free: 3}}})
	reads(t, o, money(3), engine.Reply{Money: [2]api.Balance{{}, {Free: 4, Held: 1}}})
	reads(t, o, money(math.MaxUint64), engine.Reply{})
	reads(t, overlay.Over(nil), money(0), engine.Reply{Err: api.ErrArg})
	reads(t, overlay.Over(nil), money(1), engine.Reply{})
}

// full: a reply of which no part is zero.
func full() engine.Reply {
	return engine.Reply{
		Err: api.ErrArg, ID: 1, N: 2,
		Order:  api.Order{ID: 1, Account: 2, Side: 3, Price: 4, Size: 5, Left: 6, Rank: 7, Expiry: 8, State: 9},
		Trades: []api.Trade{{Maker: 1, Taker: 2, Price: 3, Size: 4}, {Maker: 5, Taker: 6, Price: 7, Size: 8}},
		Gone:   []uint64{1, 2},
		Money:  [2]api.Balance{{Free: 1, Held: 2}, {Free: 3, Held: 4}},
		Levels: []book.Level{{Price: 1, Size: 2}, {Price: 3, Size: 4}},
	}
}

// TestSame: P26.4, all parts, and all of theirs.
func TestSame(t *testing.T) {
	l := []engine.Reply{full(), {}}
	for _, change := range []func(*engine.Reply){
		func(r *engine.Reply) { r.Err = api.OK },
		func(r *engine.Reply) { r.Err++ },
		func(r *engine.Reply) { r.ID = 0 },
		func(r *engine.Reply) { r.N = 0 },
		func(r *engine.Reply) { r.N += 1 << 63 },
		func(r *engine.Reply) { r.Order = api.Order{} },
		func(r *engine.Reply) { r.Order.ID++ },
		func(r *engine.Reply) { r.Order.Account++ },
		func(r *engine.Reply) { r.Order.Side++ },
		func(r *engine.Reply) { r.Order.Price++ },
		func(r *engine.Reply) { r.Order.Size++ },
		func(r *engine.Reply) { r.Order.Left++ },
		func(r *engine.Reply) { r.Order.Rank++ },
		func(r *engine.Reply) { r.Order.Expiry++ },
		func(r *engine.Reply) { r.Order.State++ },
		func(r *engine.Reply) { r.Trades = nil },
		func(r *engine.Reply) { r.Trades = r.Trades[:1] },
		func(r *engine.Reply) { r.Trades = append(r.Trades, api.Trade{}) },
		func(r *engine.Reply) { r.Trades[0].Maker++ },
		func(r *engine.Reply) { r.Trades[1].Taker++ },
		func(r *engine.Reply) { r.Trades[0].Price++ },
		func(r *engine.Reply) { r.Trades[1].Size++ },
		func(r *engine.Reply) { r.Trades[0], r.Trades[1] = r.Trades[1], r.Trades[0] },
		func(r *engine.Reply) { r.Gone = nil },
		func(r *engine.Reply) { r.Gone = r.Gone[1:] },
		func(r *engine.Reply) { r.Gone[0], r.Gone[1] = 2, 1 },
		func(r *engine.Reply) { r.Gone[1]++ },
		func(r *engine.Reply) { r.Gone = append(r.Gone, 0) },
		func(r *engine.Reply) { r.Money[0].Free++ },
		func(r *engine.Reply) { r.Money[0].Held++ },
		func(r *engine.Reply) { r.Money[1].Free++ },
		func(r *engine.Reply) { r.Money[1].Held++ },
		func(r *engine.Reply) { r.Levels = nil },
		func(r *engine.Reply) { r.Levels = r.Levels[:1] },
		func(r *engine.Reply) { r.Levels[0].Price++ },
		func(r *engine.Reply) { r.Levels[1].Size++ },
		func(r *engine.Reply) { r.Levels = append(r.Levels, book.Level{}) },
	} {
		x := full()
		change(&x)
		l = append(l, x)
	}
	for i, a := range l {
		for j, b := range l {
			want(t, fmt.Sprint("Same of ", i, " and ", j), engine.Same(a, b), i == j)
		}
	}
	want(t, "Same of one made anew", engine.Same(full(), full()), true)
	want(t, "lists without elements", engine.Same(engine.Reply{}, engine.Reply{Trades: []api.Trade{}, Gone: []uint64{}, Levels: []book.Level{}}), true)
	want(t, "lists without elements", engine.Same(engine.Reply{Trades: []api.Trade{}, Gone: []uint64{}, Levels: []book.Level{}}, engine.Reply{}), true)
}

// TestRepliesAreNew: the Rules: no reply shares a list with another one.
func TestRepliesAreNew(t *testing.T) {
	o := market(t, deposit(1, api.Cash, 100), deposit(2, api.Goods, 9), place(until(5, limit(2, api.Sell, 5, 3))))
	g := engine.On(o)
	r := g.Depth(api.Sell, 5)
	r.Levels[0] = book.Level{}
	reads(t, o, depth(api.Sell, 5), engine.Reply{Levels: []book.Level{{Price: 5, Size: 3}}})
	r = g.Place(limit(1, api.Buy, 5, 1))
	r.Trades[0], r.Order = api.Trade{}, api.Order{}
	r = g.Place(limit(1, api.Buy, 5, 1))
	list(t, "trades", r.Trades, []api.Trade{{Maker: 1, Taker: 3, Price: 5, Size: 1}})
}

// TestNilOverlay: P1, of a market over a nil overlay, as of one that has nothing, and keeps nothing.
func TestNilOverlay(t *testing.T) {
	for range 2 {
		for _, g := range []engine.Engine{engine.On(nil), {}} {
			want(t, "Deposit", g.Deposit(1, api.Cash, 5).Err, api.OK)
			want(t, "Withdraw", g.Withdraw(1, api.Cash, 5).Err, api.ErrFunds)
			want(t, "Place", g.Place(limit(1, api.Buy, 1, 1)).Err, api.ErrFunds)
			want(t, "Place", g.Place(as(api.FOK, limit(1, api.Sell, 1, 1))).Err, api.ErrFunds)
			x := api.Order{ID: 1, Account: 1, Side: api.Buy, Price: most, Size: 1, Left: 1, Rank: 1, State: api.Cancelled}
			want(t, "Place", told(g.Place(as(api.Market, limit(1, api.Buy, 0, 1)))), told(engine.Reply{ID: 1, Order: x}))
			want(t, "Cancel", g.Cancel(1, 1).Err, api.ErrNone)
			want(t, "Amend", g.Amend(1, 1, 1, 1).Err, api.ErrNone)
			want(t, "Tick", told(g.Tick(5)), told(engine.Reply{N: 5}))
			want(t, "Status", g.Status(1).Err, api.ErrNone)
			want(t, "Depth", told(g.Depth(api.Buy, 5)), told(engine.Reply{}))
			want(t, "Money", told(g.Money(1)), told(engine.Reply{}))
		}
	}
}
