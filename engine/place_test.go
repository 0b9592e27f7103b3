package engine_test

import (
	"fmt"
	"math"
	"slices"
	"testing"

	"bourse/api"
	"bourse/engine"
	"bourse/ledger"
)

// street: a market with orders on both sides: Sells of the account 2 and 3, Buys of 1, at the time 10.
func street() []call {
	return []call{
		deposit(1, api.Cash, 1000), deposit(1, api.Goods, 100), deposit(2, api.Cash, 1000), deposit(2, api.Goods, 100), deposit(3, api.Goods, 7),
		place(limit(2, api.Sell, 12, 3)), place(limit(3, api.Sell, 11, 4)), place(limit(2, api.Sell, 11, 2)),
		place(limit(1, api.Buy, 8, 5)), place(limit(1, api.Buy, 9, 2)), tick(10),
	}
}

// wrong is what may be wrong with an Ask.
type wrong struct {
	what  string
	fault api.Errno
	do    func(*engine.Ask)
}

// wrongs: in the chapter's order, of an Ask of a type that isn't Market.
func wrongs(side int) []wrong {
	cross := map[int]int64{api.Buy: 11, api.Sell: 9}[side]
	l := []wrong{
		{"account 0", api.ErrArg, func(a *engine.Ask) { a.Account = 0 }},
		{"side 0", api.ErrSide, func(a *engine.Ask) { a.Side = 0 }},
		{"side 3", api.ErrSide, func(a *engine.Ask) { a.Side = 3 }},
		{"a side beyond 32 bits", api.ErrSide, func(a *engine.Ask) { a.Side += 1 << 32 }},
		{"type 0", api.ErrKind, func(a *engine.Ask) { a.Type = 0 }},
		{"type 6", api.ErrKind, func(a *engine.Ask) { a.Type = 6 }},
		{"a type below 0", api.ErrKind, func(a *engine.Ask) { a.Type = -1 }},
		{"price 0", api.ErrPrice, func(a *engine.Ask) { a.Price = 0 }},
		{"a price below 0", api.ErrPrice, func(a *engine.Ask) { a.Price = -1 }},
		{"a price above all", api.ErrPrice, func(a *engine.Ask) { a.Price = most + 1 }},
		{"size 0", api.ErrSize, func(a *engine.Ask) { a.Size = 0 }},
		{"a size below 0", api.ErrSize, func(a *engine.Ask) { a.Size = least }},
		{"a size above all", api.ErrSize, func(a *engine.Ask) { a.Size = most + 1 }},
		{"expiry 1", api.ErrExpiry, func(a *engine.Ask) { a.Expiry = 1 }},
		{"an expiry that is the clock", api.ErrExpiry, func(a *engine.Ask) { a.Expiry = 10 }},
		{"an expiry above all", api.ErrExpiry, func(a *engine.Ask) { a.Expiry = most + 1 }},
		{"the last expiry", api.ErrExpiry, func(a *engine.Ask) { a.Expiry = math.MaxUint64 }},
		{"an IOC's expiry", api.ErrExpiry, func(a *engine.Ask) { a.Type, a.Expiry = api.IOC, 11 }},
		{"a FOK's expiry", api.ErrExpiry, func(a *engine.Ask) { a.Type, a.Expiry = api.FOK, 11 }},
	}
	if side == api.Buy {
		l = append(l, wrong{"a cost above all", api.ErrOver, func(a *engine.Ask) { a.Price, a.Size = most, most }})
	}
	return append(l,
		wrong{"too dear", api.ErrFunds, func(a *engine.Ask) { a.Price, a.Size = cross, 1000 }},
		wrong{"PostOnly that crosses", api.ErrCross, func(a *engine.Ask) { a.Type, a.Price = api.PostOnly, cross }},
		wrong{"FOK of too much", api.ErrKill, func(a *engine.Ask) { a.Type, a.Price, a.Size = api.FOK, cross, 7 }},
	)
}

// TestPlaceErrors: P26.1, each error; of two the one that is named first; nothing is changed.
func TestPlaceErrors(t *testing.T) {
	o := market(t, street()...)
	for _, side := range []int{api.Buy, api.Sell} {
		l := wrongs(side)
		for _, base := range []int{api.Limit, api.IOC, api.FOK, api.PostOnly} {
			for i, first := range l {
				for _, second := range l[i:] {
					if first.fault == api.ErrCross && second.fault == api.ErrKill {
						continue // one Ask has one type alone
					}
					a := as(base, limit(1, side, map[int]int64{api.Buy: 11, api.Sell: 9}[side], 1))
					if base == api.PostOnly {
						a.Price = 10
					}
					second.do(&a)
					first.do(&a)
					c := place(a)
					c.what = fmt.Sprint(c.what, ": ", first.what, ", ", second.what)
					refused(t, o, c, first.fault)
				}
			}
		}
	}
}

// TestPlaceMarketErrors: P26.1, of a Market order a price, a size, an expiry, what a Sell needs, in this order.
func TestPlaceMarketErrors(t *testing.T) {
	o := market(t, street()...)
	for _, c := range []struct {
		fault api.Errno
		a     engine.Ask
	}{
		{api.ErrArg, engine.Ask{}},
		{api.ErrArg, engine.Ask{Type: api.Market, Side: api.Buy, Size: 1}},
		{api.ErrSide, engine.Ask{Type: api.Market, Account: 1, Price: 1}},
		{api.ErrPrice, engine.Ask{Type: api.Market, Account: 1, Side: api.Buy, Price: 1, Size: 1}},
		{api.ErrPrice, engine.Ask{Type: api.Market, Account: 1, Side: api.Buy, Price: -1, Size: 0}},
		{api.ErrPrice, engine.Ask{Type: api.Market, Account: 1, Side: api.Sell, Price: 1, Size: 1}},
		{api.ErrPrice, engine.Ask{Type: api.Market, Account: 1, Side: api.Buy, Price: most, Size: 1, Expiry: 11}},
		{api.ErrPrice, engine.Ask{Type: api.Market, Account: 1, Side: api.Sell, Price: least, Size: 1000}},
		{api.ErrSize, engine.Ask{Type: api.Market, Account: 1, Side: api.Buy}},
		{api.ErrSize, engine.Ask{Type: api.Market, Account: 1, Side: api.Buy, Size: -1, Expiry: 11}},
		{api.ErrSize, engine.Ask{Type: api.Market, Account: 1, Side: api.Buy, Size: most + 1}},
		{api.ErrSize, engine.Ask{Type: api.Market, Account: 1, Side: api.Sell, Size: most + 1}},
		{api.ErrSize, engine.Ask{Type: api.Market, Account: 1, Side: api.Sell, Size: least}},
		{api.ErrExpiry, engine.Ask{Type: api.Market, Account: 1, Side: api.Buy, Size: 1, Expiry: 11}},
		{api.ErrExpiry, engine.Ask{Type: api.Market, Account: 1, Side: api.Sell, Size: 1000, Expiry: 11}},
		{api.ErrFunds, engine.Ask{Type: api.Market, Account: 1, Side: api.Sell, Size: 101}},
		{api.ErrFunds, engine.Ask{Type: api.Market, Account: 9, Side: api.Sell, Size: 1}},
	} {
		refused(t, o, place(c.a), c.fault)
	}
}

// TestPlaceExpiry: P26.1, an expiry above the clock, up to 2^40.
func TestPlaceExpiry(t *testing.T) {
	for _, now := range []uint64{0, 1, 10, most - 1, most} {
		for _, at := range []uint64{0, 1, 2, 9, 10, 11, most - 1, most, most + 1, 1 << 63, math.MaxUint64} {
			for kind := api.Limit; kind <= api.PostOnly; kind++ {
				o := market(t, deposit(1, api.Goods, 5), tick(now))
				a := until(at, as(kind, limit(1, api.Sell, 5, 2)))
				x := api.Order{ID: 1, Account: 1, Side: api.Sell, Price: 5, Size: 2, Left: 2, Rank: 1, Expiry: at, State: api.Resting}
				if kind == api.Market {
					x.Price = 1
				}
				rests := kind == api.Limit || kind == api.PostOnly
				switch {
				case at != 0 && (!rests || at <= now || at > most):
					refused(t, o, place(a), api.ErrExpiry)
				case kind == api.FOK:
					refused(t, o, place(a), api.ErrKill)
				case rests:
					answers(t, o, place(a), engine.Reply{ID: 1, Order: x})
				default:
					x.State = api.Cancelled
					answers(t, o, place(a), engine.Reply{ID: 1, Order: x})
				}
			}
		}
	}
}

// bought is what a taker's reply is.
type bought struct {
	price  int64 // of the order
	left   int64
	state  int
	trades []api.Trade
}

// types: what each type comes to in the street: the order is the sixth one.
func types() map[engine.Ask]bought {
	const (
		rests = api.Resting
		full  = api.Filled
		gone  = api.Cancelled
	)
	buy, sell := func(price, size int64) engine.Ask { return limit(4, api.Buy, price, size) }, func(price, size int64) engine.Ask { return limit(4, api.Sell, price, size) }
	two := []api.Trade{{Maker: 2, Taker: 6, Price: 11, Size: 4}, {Maker: 3, Taker: 6, Price: 11, Size: 1}}
	three := []api.Trade{{Maker: 2, Taker: 6, Price: 11, Size: 4}, {Maker: 3, Taker: 6, Price: 11, Size: 2}}
	every := append(slices.Clone(three), api.Trade{Maker: 1, Taker: 6, Price: 12, Size: 3})
	down := []api.Trade{{Maker: 5, Taker: 6, Price: 9, Size: 2}, {Maker: 4, Taker: 6, Price: 8, Size: 1}}
	deep := []api.Trade{{Maker: 5, Taker: 6, Price: 9, Size: 2}, {Maker: 4, Taker: 6, Price: 8, Size: 5}}
	return map[engine.Ask]bought{
		buy(10, 5):                       {10, 5, rests, nil},
		buy(11, 5):                       {11, 0, full, two},
		buy(11, 7):                       {11, 1, rests, three},
		buy(15, 5):                       {15, 0, full, two},
		buy(15, 9):                       {15, 0, full, every},
		buy(15, 10):                      {15, 1, rests, every},
		sell(10, 5):                      {10, 5, rests, nil},
		sell(9, 2):                       {9, 0, full, down[:1]},
		sell(9, 3):                       {9, 1, rests, down[:1]},
		sell(1, 3):                       {1, 0, full, down},
		sell(1, 9):                       {1, 2, rests, deep},
		as(api.Market, buy(0, 5)):        {most, 0, full, two},
		as(api.Market, buy(0, 10)):       {most, 1, gone, every},
		as(api.Market, sell(0, 3)):       {1, 0, full, down},
		as(api.Market, sell(0, 9)):       {1, 2, gone, deep},
		as(api.IOC, buy(10, 5)):          {10, 5, gone, nil},
		as(api.IOC, buy(11, 5)):          {11, 0, full, two},
		as(api.IOC, buy(11, 7)):          {11, 1, gone, three},
		as(api.IOC, sell(10, 5)):         {10, 5, gone, nil},
		as(api.IOC, sell(8, 9)):          {8, 2, gone, deep},
		as(api.FOK, buy(11, 5)):          {11, 0, full, two},
		as(api.FOK, buy(11, 6)):          {11, 0, full, three},
		as(api.FOK, buy(12, 9)):          {12, 0, full, every},
		as(api.FOK, sell(8, 3)):          {8, 0, full, down},
		as(api.FOK, sell(8, 7)):          {8, 0, full, deep},
		as(api.PostOnly, buy(10, 5)):     {10, 5, rests, nil},
		as(api.PostOnly, sell(10, 5)):    {10, 5, rests, nil},
		as(api.PostOnly, sell(11, 5)):    {11, 5, rests, nil},
		until(11, buy(11, 5)):            {11, 0, full, two},
		until(most, buy(11, 7)):          {11, 1, rests, three},
		until(11, as(5, sell(10, 5))):    {10, 5, rests, nil},
		until(11, as(5, sell(most, 11))): {most, 11, rests, nil},
	}
}

// TestPlace: P26.1, all types: the reply, the order, the makers, the balances, the numbers.
func TestPlace(t *testing.T) {
	for a, b := range types() {
		o := market(t, append(street(), deposit(4, api.Cash, 500), deposit(4, api.Goods, 11))...)
		x := api.Order{ID: 6, Account: 4, Side: a.Side, Price: b.price, Size: a.Size, Left: b.left, Rank: 6, Expiry: a.Expiry, State: b.state}
		makers := []api.Order{
			{ID: 1, Account: 2, Side: api.Sell, Price: 12, Size: 3, Left: 3, Rank: 1, State: api.Resting},
			{ID: 2, Account: 3, Side: api.Sell, Price: 11, Size: 4, Left: 4, Rank: 2, State: api.Resting},
			{ID: 3, Account: 2, Side: api.Sell, Price: 11, Size: 2, Left: 2, Rank: 3, State: api.Resting},
			{ID: 4, Account: 1, Side: api.Buy, Price: 8, Size: 5, Left: 5, Rank: 4, State: api.Resting},
			{ID: 5, Account: 1, Side: api.Buy, Price: 9, Size: 2, Left: 2, Rank: 5, State: api.Resting},
		}
		totals := map[owned]int64{{1, 1}: 1000, {1, 2}: 100, {2, 1}: 1000, {2, 2}: 100, {3, 2}: 7, {4, 1}: 500, {4, 2}: 11}
		for _, d := range b.trades {
			maker := &makers[d.Maker-1]
			if maker.Left -= d.Size; maker.Left == 0 {
				maker.State = api.Filled
			}
			buyer, seller := uint64(4), maker.Account
			if a.Side == api.Sell {
				buyer, seller = seller, buyer
			}
			totals[owned{buyer, 1}] -= d.Price * d.Size
			totals[owned{seller, 1}] += d.Price * d.Size
			totals[owned{seller, 2}] -= d.Size
			totals[owned{buyer, 2}] += d.Size
		}
		answers(t, o, place(a), engine.Reply{ID: 6, Order: x, Trades: b.trades})
		s := state{orders: append(makers, x), balances: map[owned]api.Balance{}, numbers: map[string]uint64{"clock": 10, "id": 6, "rank": 6, "net1": 2500, "net2": 218}}
		for of, n := range totals {
			var held int64
			for _, y := range s.orders {
				if y.State == api.Resting && y.Account == of.account {
					held += map[owned]int64{{api.Buy, api.Cash}: y.Price * y.Left, {api.Sell, api.Goods}: y.Left}[owned{uint64(y.Side), of.thing}]
				}
			}
			s.balances[of] = api.Balance{Free: n - held, Held: held}
		}
		stands(t, fmt.Sprintf("%+v", a), o, s)
	}
}

// TestPlaceHolds: P26.1, what is held, up to all that is free, and what isn't left so.
func TestPlaceHolds(t *testing.T) {
	o := market(t, deposit(1, api.Cash, 30), deposit(1, api.Goods, 4))
	refused(t, o, place(limit(1, api.Buy, 31, 1)), api.ErrFunds)
	refused(t, o, place(limit(1, api.Sell, 31, 5)), api.ErrFunds)
	done(t, o, place(limit(1, api.Buy, 10, 2)))
	has(t, o, 1, api.Balance{Free: 10, Held: 20}, api.Balance{Free: 4})
	refused(t, o, place(limit(1, api.Buy, 11, 1)), api.ErrFunds)
	done(t, o, place(limit(1, api.Buy, 10, 1)), place(limit(1, api.Sell, 11, 4)))
	has(t, o, 1, api.Balance{Held: 30}, api.Balance{Held: 4})
	refused(t, o, place(limit(1, api.Sell, 20, 1)), api.ErrFunds)
	refused(t, o, place(as(api.Market, limit(1, api.Sell, 0, 1))), api.ErrFunds)
	// What the first one holds isn't what the second one pays with.
	answers(t, o, place(as(api.Market, limit(1, api.Buy, 0, 1))), engine.Reply{ID: 4, Order: api.Order{ID: 4, Account: 1, Side: api.Buy, Price: most, Size: 1, Left: 1, Rank: 4, State: api.Cancelled}})
}

// TestPlaceEnds: P26.1, ErrOver of a cost, and of what would be held, ahead of ErrFunds; all up to 2^63 - 1.
func TestPlaceEnds(t *testing.T) {
	const part = 1 << 22 // at the price 2^40 half of what is too much
	o := market(t, deposit(1, api.Cash, greatest), deposit(2, api.Goods, greatest))
	refused(t, o, place(limit(1, api.Buy, most, 2*part)), api.ErrOver)
	refused(t, o, place(as(api.FOK, limit(1, api.Buy, most, 2*part))), api.ErrOver)
	refused(t, o, place(limit(3, api.Buy, most, 2*part)), api.ErrOver)
	refused(t, o, place(limit(3, api.Buy, most, 2*part-1)), api.ErrFunds)
	done(t, o, place(limit(1, api.Buy, most, part)))
	refused(t, o, place(limit(1, api.Buy, most, part)), api.ErrOver)
	done(t, o, place(limit(1, api.Buy, most, part-1)), place(limit(1, api.Buy, 1, most-1)))
	has(t, o, 1, api.Balance{Held: greatest}, api.Balance{})
	refused(t, o, place(limit(1, api.Buy, 1, 1)), api.ErrOver)
	answers(t, o, place(limit(2, api.Sell, 1, most)), engine.Reply{
		ID:     4,
		Order:  api.Order{ID: 4, Account: 2, Side: api.Sell, Price: 1, Size: most, Rank: 4, State: api.Filled},
		Trades: []api.Trade{{Maker: 1, Taker: 4, Price: most, Size: part}, {Maker: 2, Taker: 4, Price: most, Size: part - 1}, {Maker: 3, Taker: 4, Price: 1, Size: most - 2*part + 1}},
	})
	has(t, o, 2, api.Balance{Free: greatest - 2*part + 2}, api.Balance{Free: greatest - most})
	has(t, o, 1, api.Balance{Held: 2*part - 2}, api.Balance{Free: most})
	// Of goods, where somebody else holds nearly all.
	o = market(t, deposit(1, api.Goods, greatest))
	want(t, "Hold", ledger.Hold(o, 1, api.Goods, greatest-2), api.OK)
	refused(t, o, place(limit(1, api.Sell, 1, 3)), api.ErrOver)
	refused(t, o, place(as(api.Market, limit(1, api.Sell, 0, 3))), api.ErrOver)
	done(t, o, place(limit(1, api.Sell, 1, 2)))
}

// TestPlaceSelf: P26.1, an account that meets itself: all that it paid it has free.
func TestPlaceSelf(t *testing.T) {
	for _, kind := range []int{api.Limit, api.Market, api.IOC, api.FOK} {
		for _, side := range []int{api.Buy, api.Sell} {
			o := market(t, deposit(1, api.Cash, 100), deposit(1, api.Goods, 10))
			price := map[int]int64{api.Buy: 12, api.Sell: 8}[side]
			done(t, o, place(limit(1, 3-side, 10, 5)))
			r := engine.On(o).Place(as(kind, limit(1, side, price, 3)))
			what := fmt.Sprint("the type ", kind, ", the side ", side)
			list(t, what, r.Trades, []api.Trade{{Maker: 1, Taker: 2, Price: 10, Size: 3}})
			want(t, what, r.Order.State, api.Filled)
			if side == api.Buy {
				has(t, o, 1, api.Balance{Free: 100}, api.Balance{Free: 8, Held: 2})
			} else {
				has(t, o, 1, api.Balance{Free: 80, Held: 20}, api.Balance{Free: 10})
			}
		}
	}
}

// TestMarketCash: P26.1, a Market Buy takes what it can pay with what is free, piece by piece.
func TestMarketCash(t *testing.T) {
	for cash, wanted := range map[int64][]api.Trade{
		1:   nil,
		10:  nil,
		11:  {{Maker: 2, Taker: 6, Price: 11, Size: 1}},
		43:  {{Maker: 2, Taker: 6, Price: 11, Size: 3}},
		44:  {{Maker: 2, Taker: 6, Price: 11, Size: 4}},
		54:  {{Maker: 2, Taker: 6, Price: 11, Size: 4}},
		66:  {{Maker: 2, Taker: 6, Price: 11, Size: 4}, {Maker: 3, Taker: 6, Price: 11, Size: 2}},
		89:  {{Maker: 2, Taker: 6, Price: 11, Size: 4}, {Maker: 3, Taker: 6, Price: 11, Size: 2}, {Maker: 1, Taker: 6, Price: 12, Size: 1}},
		999: {{Maker: 2, Taker: 6, Price: 11, Size: 4}, {Maker: 3, Taker: 6, Price: 11, Size: 2}, {Maker: 1, Taker: 6, Price: 12, Size: 3}},
	} {
		o := market(t, append(street(), deposit(4, api.Cash, cash))...)
		x := api.Order{ID: 6, Account: 4, Side: api.Buy, Price: most, Size: most, Left: most, Rank: 6, State: api.Cancelled}
		paid, got := int64(0), int64(0)
		for _, d := range wanted {
			x.Left -= d.Size
			paid += d.Price * d.Size
			got += d.Size
		}
		answers(t, o, place(as(api.Market, limit(4, api.Buy, 0, most))), engine.Reply{ID: 6, Order: x, Trades: wanted})
		has(t, o, 4, api.Balance{Free: cash - paid}, api.Balance{Free: got})
	}
	// What it holds for others it doesn't pay with.
	o := market(t, append(street(), deposit(4, api.Cash, 30), place(limit(4, api.Buy, 10, 2)))...)
	done(t, o, place(as(api.Market, limit(4, api.Buy, 0, 2))))
	has(t, o, 4, api.Balance{Free: 10, Held: 20}, api.Balance{})
	done(t, o, deposit(4, api.Cash, 1), place(as(api.Market, limit(4, api.Buy, 0, 2))))
	has(t, o, 4, api.Balance{Held: 20}, api.Balance{Free: 1})
}

// TestNextNumbers: P26.1, the next id and the next rank, up to 2^56; of an error none is used.
func TestNextNumbers(t *testing.T) {
	o := market(t, deposit(1, api.Goods, 50))
	want(t, "Set", ledger.Set(o, "id", 1<<56-2), api.OK)
	want(t, "Set", ledger.Set(o, "rank", 1<<56-3), api.OK)
	x := api.Order{ID: 1<<56 - 1, Account: 1, Side: api.Sell, Price: 5, Size: 2, Left: 2, Rank: 1<<56 - 2, State: api.Resting}
	answers(t, o, place(limit(1, api.Sell, 5, 2)), engine.Reply{ID: x.ID, Order: x})
	refused(t, o, place(limit(1, api.Sell, 5, 49)), api.ErrFunds)
	refused(t, o, place(as(api.FOK, limit(1, api.Sell, 5, 9))), api.ErrKill)
	x.ID, x.Rank, x.State, x.Price = 1<<56, 1<<56-1, api.Cancelled, 1
	answers(t, o, place(as(api.Market, limit(1, api.Sell, 0, 2))), engine.Reply{ID: x.ID, Order: x})
	refused(t, o, place(limit(1, api.Sell, 5, 1)), api.ErrRange)
	want(t, "Set", ledger.Set(o, "id", 7), api.OK)
	done(t, o, place(limit(1, api.Sell, 5, 1)))
	refused(t, o, place(limit(1, api.Sell, 5, 1)), api.ErrRange)
	refused(t, o, place(as(api.IOC, limit(1, api.Sell, 5, 1))), api.ErrRange)
	refused(t, o, amend(1, 8, 5, 2), api.ErrRange)
	refused(t, o, amend(1, 8, 6, 1), api.ErrRange)
	refused(t, o, amend(1, 8, 6, 1000), api.ErrRange)
	refused(t, o, amend(1, 8, 6, 0), api.ErrSize)
	x = api.Order{ID: 8, Account: 1, Side: api.Sell, Price: 5, Size: 1, Left: 1, Rank: 1 << 56, State: api.Resting}
	answers(t, o, amend(1, 8, 5, 1), engine.Reply{Order: x})
}
