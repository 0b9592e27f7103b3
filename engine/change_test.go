package engine_test

import (
	"fmt"
	"math"
	"testing"

	"bourse/api"
	"bourse/book"
	"bourse/engine"
	"bourse/ledger"
	"bourse/overlay"
)

// lane: a market with orders in all states, at the time 10, by their numbers: 1 rests, of which 3 of 8 are done (a Sell at 6), 2 is Filled, 3 is Cancelled, 4 is Expired, 5 rests (a Buy at 4 until 20), 6 rests (a Sell at 6).
func lane(t *testing.T) *overlay.Overlay {
	t.Helper()
	return market(t,
		deposit(1, api.Goods, 10), deposit(2, api.Cash, 100), deposit(3, api.Goods, 5),
		place(limit(1, api.Sell, 6, 8)), place(limit(2, api.Buy, 7, 3)), place(as(api.IOC, limit(2, api.Buy, 1, 1))),
		place(until(10, limit(2, api.Buy, 1, 1))), tick(10), place(until(20, limit(2, api.Buy, 4, 5))), place(limit(3, api.Sell, 6, 1)),
	)
}

// laid: the lane's orders, as they are.
func laid(t *testing.T, o *overlay.Overlay) []api.Order {
	t.Helper()
	var l []api.Order
	for x, e := range book.All(o) {
		want(t, "All", e, api.OK)
		l = append(l, x)
	}
	return l
}

// TestLane: what the lane is.
func TestLane(t *testing.T) {
	list(t, "the lane", laid(t, lane(t)), []api.Order{
		{ID: 1, Account: 1, Side: api.Sell, Price: 6, Size: 8, Left: 5, Rank: 1, State: api.Resting},
		{ID: 2, Account: 2, Side: api.Buy, Price: 7, Size: 3, Left: 0, Rank: 2, State: api.Filled},
		{ID: 3, Account: 2, Side: api.Buy, Price: 1, Size: 1, Left: 1, Rank: 3, State: api.Cancelled},
		{ID: 4, Account: 2, Side: api.Buy, Price: 1, Size: 1, Left: 1, Rank: 4, Expiry: 10, State: api.Expired},
		{ID: 5, Account: 2, Side: api.Buy, Price: 4, Size: 5, Left: 5, Rank: 5, Expiry: 20, State: api.Resting},
		{ID: 6, Account: 3, Side: api.Sell, Price: 6, Size: 1, Left: 1, Rank: 6, State: api.Resting},
	})
}

// TestCancel: P26.2, what it needs is free, it is Cancelled, and stands nowhere.
func TestCancel(t *testing.T) {
	o := lane(t)
	l := laid(t, o)
	has(t, o, 1, api.Balance{Free: 18}, api.Balance{Free: 2, Held: 5})
	l[0].State = api.Cancelled
	answers(t, o, cancel(1, 1), engine.Reply{Order: l[0]})
	has(t, o, 1, api.Balance{Free: 18}, api.Balance{Free: 7})
	has(t, o, 2, api.Balance{Free: 62, Held: 20}, api.Balance{Free: 3})
	l[4].State = api.Cancelled
	answers(t, o, cancel(2, 5), engine.Reply{Order: l[4]})
	has(t, o, 2, api.Balance{Free: 82}, api.Balance{Free: 3})
	stands(t, "behind both", o, state{
		balances: map[owned]api.Balance{{1, 1}: {Free: 18}, {1, 2}: {Free: 7}, {2, 1}: {Free: 82}, {2, 2}: {Free: 3}, {3, 2}: {Free: 4, Held: 1}},
		orders:   l,
		numbers:  map[string]uint64{"clock": 10, "id": 6, "rank": 6, "net1": 100, "net2": 15},
	})
	refused(t, o, cancel(1, 1), api.ErrClosed)
	refused(t, o, cancel(2, 5), api.ErrClosed)
	answers(t, o, tick(10), engine.Reply{N: 20})
}

// TestNotTheirs: P26.2, of Cancel and Amend: ErrNone, then ErrClosed, ahead of all else.
func TestNotTheirs(t *testing.T) {
	o := lane(t)
	calls := func(account, id uint64) []call {
		return []call{cancel(account, id), amend(account, id, 6, 8), amend(account, id, 0, 0), amend(account, id, 5, 9), amend(account, id, most, most), amend(account, id, 6, 3)}
	}
	for _, whose := range [][2]uint64{{1, 0}, {1, 7}, {1, math.MaxUint64}, {0, 0}, {0, 1}, {0, 3}, {2, 1}, {3, 1}, {1, 2}, {1, 5}, {3, 2}, {1, 3}, {1, 4}, {math.MaxUint64, 1}} {
		for _, c := range calls(whose[0], whose[1]) {
			refused(t, o, c, api.ErrNone)
		}
	}
	for _, id := range []uint64{2, 3, 4} {
		for _, c := range calls(2, id) {
			refused(t, o, c, api.ErrClosed)
		}
	}
	refused(t, overlay.Over(nil), cancel(1, 1), api.ErrNone)
	refused(t, overlay.Over(nil), amend(1, 1, 1, 1), api.ErrNone)
}

// TestAmend: P26.2, the price, the size, what is left, the rank, what is held.
func TestAmend(t *testing.T) {
	for _, c := range []struct {
		id          uint64
		price, size int64
		left        int64
		rank        uint64
		free, held  int64 // of what the order holds
	}{
		{1, 6, 8, 5, 1, 2, 5},
		{1, 6, 7, 4, 1, 3, 4},
		{1, 6, 4, 1, 1, 6, 1},
		{1, 6, 9, 6, 7, 1, 6},
		{1, 6, 10, 7, 7, 0, 7},
		{1, 7, 8, 5, 7, 2, 5},
		{1, 5, 8, 5, 7, 2, 5},
		{1, most, 4, 1, 7, 6, 1},
		{1, 5, 10, 7, 7, 0, 7},
		{5, 4, 5, 5, 5, 62, 20},
		{5, 4, 1, 1, 5, 78, 4},
		{5, 4, 6, 6, 7, 58, 24},
		{5, 4, 20, 20, 7, 2, 80},
		{5, 5, 5, 5, 7, 57, 25},
		{5, 5, 1, 1, 7, 77, 5},
		{5, 3, 5, 5, 7, 67, 15},
		{5, 1, 82, 82, 7, 0, 82},
		{5, 3, 27, 27, 7, 1, 81},
	} {
		o := lane(t)
		l := laid(t, o)
		x := &l[c.id-1]
		x.Price, x.Size, x.Left, x.Rank = c.price, c.size, c.left, c.rank
		as := amend(x.Account, c.id, c.price, c.size)
		answers(t, o, as, engine.Reply{Order: *x})
		s := state{
			balances: map[owned]api.Balance{{1, 1}: {Free: 18}, {1, 2}: {Free: 2, Held: 5}, {2, 1}: {Free: 62, Held: 20}, {2, 2}: {Free: 3}, {3, 2}: {Free: 4, Held: 1}},
			orders:   l,
			numbers:  map[string]uint64{"clock": 10, "id": 6, "rank": max(6, c.rank), "net1": 100, "net2": 15},
		}
		s.balances[map[uint64]owned{1: {1, 2}, 5: {2, 1}}[c.id]] = api.Balance{Free: c.free, Held: c.held}
		stands(t, as.what, o, s)
	}
}

// TestAmendErrors: P26.2, in the chapter's order.
func TestAmendErrors(t *testing.T) {
	o := lane(t)
	for _, c := range []struct {
		account, id uint64
		price, size int64
		fault       api.Errno
	}{
		{1, 1, 0, 8, api.ErrPrice},
		{1, 1, -1, 0, api.ErrPrice},
		{1, 1, most + 1, 3, api.ErrPrice},
		{2, 5, least, least, api.ErrPrice},
		{1, 1, 6, 0, api.ErrSize},
		{1, 1, 6, -1, api.ErrSize},
		{1, 1, 6, most + 1, api.ErrSize},
		{1, 1, 6, greatest, api.ErrSize},
		{1, 1, 6, 1, api.ErrSize},
		{1, 1, 6, 3, api.ErrSize},
		{1, 1, 4, 3, api.ErrSize},
		{2, 5, 6, 0, api.ErrSize},
		{2, 5, most, most, api.ErrOver},
		{1, 1, 6, 11, api.ErrFunds},
		{1, 1, 4, 11, api.ErrFunds},
		{1, 1, 7, most, api.ErrFunds},
		{2, 5, 4, 21, api.ErrFunds},
		{2, 5, 6, 14, api.ErrFunds},
		{2, 5, 83, 1, api.ErrFunds},
		{2, 5, 6, 1, api.ErrCross},
		{2, 5, 6, 13, api.ErrCross},
		{2, 5, 7, 5, api.ErrCross},
		{1, 1, 4, 8, api.ErrCross},
		{1, 1, 1, 4, api.ErrCross},
		{1, 1, 3, 10, api.ErrCross},
	} {
		refused(t, o, amend(c.account, c.id, c.price, c.size), c.fault)
	}
	o = market(t, deposit(1, api.Cash, greatest), place(limit(1, api.Buy, most, 1<<23-1)), place(limit(1, api.Buy, 1, most-1)))
	refused(t, o, amend(1, 2, 1, most), api.ErrOver)
	refused(t, o, amend(1, 2, 2, most-1), api.ErrOver)
	done(t, o, amend(1, 1, most-1, 1<<23-1), amend(1, 2, 1, most))
	refused(t, o, amend(1, 1, most, 1<<23-1), api.ErrOver)
	// What was done of it is looked at ahead of the next rank.
	o = lane(t)
	want(t, "Set", ledger.Set(o, "rank", 1<<56), api.OK)
	refused(t, o, amend(1, 1, 7, 3), api.ErrSize)
	refused(t, o, amend(1, 1, 7, 4), api.ErrRange)
	// Somebody who would meet oneself.
	o = market(t, deposit(1, api.Cash, 50), deposit(1, api.Goods, 5), place(limit(1, api.Buy, 5, 2)), place(limit(1, api.Sell, 6, 2)))
	refused(t, o, amend(1, 1, 6, 2), api.ErrCross)
	refused(t, o, amend(1, 2, 5, 2), api.ErrCross)
	done(t, o, cancel(1, 2), amend(1, 1, 6, 2))
}

// TestAmendPlace: P26.2, whoever keeps the rank is met first still; whoever has another one, or more, stands behind.
func TestAmendPlace(t *testing.T) {
	for _, c := range []struct {
		calls []call
		first uint64
	}{
		{nil, 1},
		{[]call{amend(1, 1, 6, 3)}, 1},
		{[]call{amend(1, 1, 6, 5)}, 1},
		{[]call{amend(1, 1, 6, 6)}, 2},
		{[]call{amend(1, 1, 6, 3), amend(1, 1, 6, 5)}, 2},
		{[]call{amend(1, 1, 7, 5), amend(1, 1, 6, 5)}, 2},
		{[]call{amend(1, 1, 7, 5), amend(1, 2, 7, 5)}, 1},
		{[]call{amend(1, 2, 5, 5)}, 2},
	} {
		o := market(t, deposit(1, api.Goods, 20), deposit(2, api.Cash, 100), place(limit(1, api.Sell, 6, 5)), place(limit(1, api.Sell, 6, 5)))
		done(t, o, c.calls...)
		r := engine.On(o).Place(limit(2, api.Buy, 9, 1))
		want(t, fmt.Sprintf("behind %+v: who is met", c.calls), len(r.Trades) == 1 && r.Trades[0].Maker == c.first, true)
	}
}

// TestTick: P26.3, all that is due, by its time, then by its number; the clock.
func TestTick(t *testing.T) {
	calls := []call{deposit(1, api.Cash, 1000), deposit(2, api.Goods, 100)}
	for i, at := range []uint64{7, 5, 0, 7, 5, 6, 1 << 40, 8} {
		a := limit(1, api.Buy, int64(1+i), 2)
		if i%2 == 0 {
			a = limit(2, api.Sell, int64(20+i), 2)
		}
		calls = append(calls, place(until(at, a)))
	}
	calls = append(calls, place(until(7, as(api.PostOnly, limit(2, api.Sell, 50, 3)))), cancel(1, 4))
	for _, c := range []struct {
		ticks []uint64
		gone  [][]uint64
	}{
		{[]uint64{4, 1, 1, 1, 1}, [][]uint64{nil, {2, 5}, {6}, {1, 9}, {8}}},
		{[]uint64{0, 5, 0, 2}, [][]uint64{nil, {2, 5}, nil, {6, 1, 9}}},
		{[]uint64{100, 1<<40 - 101, 0, 1}, [][]uint64{{2, 5, 6, 1, 9, 8}, nil, nil, {7}}},
		{[]uint64{1 << 40}, [][]uint64{{2, 5, 6, 1, 9, 8, 7}}},
	} {
		o := market(t, calls...)
		l := laid(t, o)
		now := uint64(0)
		for i, n := range c.ticks {
			now += n
			for _, id := range c.gone[i] {
				l[id-1].State = api.Expired
			}
			answers(t, o, tick(n), engine.Reply{Gone: c.gone[i], N: now})
			var cash, goods int64
			for _, x := range l {
				if x.State == api.Resting && x.Side == api.Buy {
					cash += x.Price * x.Left
				} else if x.State == api.Resting {
					goods += x.Left
				}
			}
			stands(t, fmt.Sprint("at ", now), o, state{
				balances: map[owned]api.Balance{{1, 1}: {Free: 1000 - cash, Held: cash}, {2, 2}: {Free: 100 - goods, Held: goods}},
				orders:   l,
				numbers:  map[string]uint64{"clock": now, "id": 9, "rank": 9, "net1": 1000, "net2": 100},
			})
		}
	}
}

// TestTickErrors: P26.3, ErrTime above 2^40, whatever the numbers are.
func TestTickErrors(t *testing.T) {
	for _, now := range []uint64{0, 1, 10, most - 1, most} {
		o := market(t, deposit(1, api.Goods, 5), tick(now))
		if now < most {
			done(t, o, place(until(now+1, limit(1, api.Sell, 1, 1))))
		}
		for _, n := range []uint64{most + 1 - now, most + 1, 1 << 63, math.MaxUint64 - now, math.MaxUint64 - now + 1, math.MaxUint64} {
			if n <= most-now { // the number went round
				continue
			}
			refused(t, o, tick(n), api.ErrTime)
		}
		wanted := engine.Reply{N: most}
		if now < most {
			wanted.Gone = []uint64{1}
		}
		answers(t, o, tick(most-now), wanted)
		refused(t, o, tick(1), api.ErrTime)
	}
	for _, now := range []uint64{most + 1, 1 << 63, math.MaxUint64} {
		o := market(t)
		want(t, "Set", ledger.Set(o, "clock", now), api.OK)
		for _, n := range []uint64{0, 1, most, math.MaxUint64 - now, math.MaxUint64 - now + 1, math.MaxUint64} {
			refused(t, o, tick(n), api.ErrTime)
		}
	}
}

// TestDepositAndWithdraw: P26.3, as layer 23's.
func TestDepositAndWithdraw(t *testing.T) {
	o := overlay.Over(nil)
	for _, c := range []struct {
		call  call
		fault api.Errno
	}{
		{deposit(0, 3, 0), api.ErrArg}, {deposit(1, 3, 0), api.ErrKind}, {deposit(1, 0, 5), api.ErrKind}, {deposit(1, 1, 0), api.ErrSize}, {deposit(1, 2, -1), api.ErrSize},
		{withdraw(0, 3, 0), api.ErrArg}, {withdraw(1, 3, 0), api.ErrKind}, {withdraw(1, 0, 5), api.ErrKind}, {withdraw(1, 1, 0), api.ErrSize}, {withdraw(1, 2, least), api.ErrSize},
		{withdraw(1, 1, 1), api.ErrFunds}, {deposit(1, 1, greatest), api.OK}, {deposit(1, 1, 1), api.ErrOver}, {deposit(2, 1, 1), api.ErrOver}, {deposit(2, 2, 9), api.OK},
		{withdraw(1, 2, 1), api.ErrFunds}, {withdraw(1, 1, greatest-10), api.OK}, {withdraw(1, 1, 11), api.ErrFunds},
	} {
		answers(t, o, c.call, engine.Reply{Err: c.fault})
	}
	done(t, o, place(limit(1, api.Buy, 4, 2)), place(limit(2, api.Sell, 5, 9)))
	refused(t, o, withdraw(1, 1, 3), api.ErrFunds)
	refused(t, o, withdraw(2, 2, 1), api.ErrFunds)
	answers(t, o, withdraw(1, 1, 1), engine.Reply{})
	stands(t, "behind all", o, state{
		balances: map[owned]api.Balance{{1, 1}: {Free: 1, Held: 8}, {2, 2}: {Held: 9}},
		orders: []api.Order{
			{ID: 1, Account: 1, Side: api.Buy, Price: 4, Size: 2, Left: 2, Rank: 1, State: api.Resting},
			{ID: 2, Account: 2, Side: api.Sell, Price: 5, Size: 9, Left: 9, Rank: 2, State: api.Resting},
		},
		numbers: map[string]uint64{"id": 2, "rank": 2, "net1": 9, "net2": 9},
	})
}
