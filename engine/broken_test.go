package engine_test

import (
	"fmt"
	"testing"

	"bourse/api"
	"bourse/book"
	"bourse/engine"
	"bourse/order"
	"bourse/overlay"
	"bourse/schema"
)

// put: a key stands there, with a value.
func put(key, value string) func(*overlay.Overlay) {
	return func(o *overlay.Overlay) { o.Put(key, value) }
}

// number: one has a value.
func number(name, value string) func(*overlay.Overlay) {
	k, _ := schema.Number(name)
	return put(k, value)
}

// balance: what an account has.
func balance(account uint64, thing int, free, held int64) func(*overlay.Overlay) {
	return put(schema.Balance(account, thing), order.Money(api.Balance{Free: free, Held: held}))
}

// placeOf: an order's place is there, whatever the order is.
func placeOf(side int, price int64, rank, id uint64) func(*overlay.Overlay) {
	return put(schema.Place(api.Order{ID: id, Side: side, Price: price, Rank: rank}), "")
}

// both: one behind the other.
func both(a, b func(*overlay.Overlay)) func(*overlay.Overlay) {
	return func(o *overlay.Overlay) {
		a(o)
		b(o)
	}
}

// comers: Buys of all types that trade, by the account 1: in the street each meets the second maker, too.
func comers() []call {
	return []call{
		place(limit(1, api.Buy, 11, 5)), place(as(api.IOC, limit(1, api.Buy, 12, 7))), place(as(api.FOK, limit(1, api.Buy, 11, 6))), place(as(api.Market, limit(1, api.Buy, 0, 7))),
	}
}

// TestBroken: P26.1, broken things are errors, too: alone, and nothing is changed, whatever was done ahead of them.
func TestBroken(t *testing.T) {
	free := limit(1, api.Buy, 10, 1)
	sell := limit(1, api.Sell, 10, 1)
	post := as(api.PostOnly, free)
	for _, c := range []struct {
		what  string
		how   func(*overlay.Overlay)
		fault api.Errno
		calls []call
	}{
		{"the id", number("id", "\x80"), api.ErrShort, append(comers(), place(free), place(sell), place(post))},
		{"the rank", number("rank", "\x05\x05"), api.ErrForm, append(comers(), place(free), place(sell), place(post), amend(1, 4, 7, 5), amend(1, 4, 8, 6), amend(1, 4, 11, 900))},
		{"the clock", number("clock", "\x80\x00"), api.ErrForm, []call{place(until(11, free)), place(until(most, post)), place(until(most+1, free)), tick(0), tick(5), tick(most + 1)}},
		{"the payer's Cash", put(schema.Balance(1, 1), "\x01\x02"), api.ErrUnder, append(comers(), place(free), place(post), cancel(1, 4), amend(1, 4, 7, 5), amend(1, 4, 8, 5), money(1), deposit(1, 1, 1), withdraw(1, 1, 1))},
		{"the payer's Goods", put(schema.Balance(1, 2), "\x02"), api.ErrShort, append(comers(), place(sell), money(1), deposit(1, 2, 5), place(as(api.Market, limit(1, api.Sell, 0, 1))))},
		{"both", both(put(schema.Balance(1, 2), "\x02"), put(schema.Balance(1, 1), "\x01\x02")), api.ErrUnder, append(comers(), money(1))},
		{"the second maker's Cash", put(schema.Balance(2, 1), ""), api.ErrShort, comers()},
		{"the second maker's Goods", put(schema.Balance(2, 2), "\x02\x02\x02"), api.ErrForm, comers()},
		{"the second maker has all Cash already", balance(2, 1, greatest, 0), api.ErrOver, comers()},
		{"the second maker holds too little", balance(2, 2, 90, 0), api.ErrFunds, comers()},
		{"the payer has all Goods already", balance(1, 2, greatest, 0), api.ErrOver, comers()},
		{"the second maker's order", put(schema.Order(3), "\x02\x02"), api.ErrShort, append(comers(), status(3), cancel(2, 3), amend(2, 3, 11, 2), amend(9, 3, 0, 0), depth(api.Sell, 1), depth(api.Sell, 2))},
		{"an order that may not be", put(schema.Order(3), order.Bytes(api.Order{ID: 3, Account: 2, Side: api.Sell, Price: 11, Size: 2, Left: 3, Rank: 3, State: api.Resting})), api.ErrSize, append(comers(), status(3), cancel(2, 3))},
		{"a place of none", placeOf(api.Sell, 11, 2, 90), api.ErrBroken, append(comers(), depth(api.Sell, 32))},
		{"no place", put(schema.Place(api.Order{ID: 3, Side: api.Sell, Price: 11, Rank: 3})+"x", ""), api.ErrKey, append(comers()[1:2], depth(api.Sell, 1))},
		{"the best Sell", placeOf(api.Sell, 1, 0, 2), api.ErrBroken, append(comers(), place(post), place(as(api.FOK, free)), place(free), amend(1, 4, 7, 5), amend(1, 4, 9, 5), amend(1, 5, 8, 90), depth(api.Sell, 1))},
		{"the best Buy", placeOf(api.Buy, 99, 0, 4), api.ErrBroken, []call{place(as(api.PostOnly, sell)), place(as(api.FOK, sell)), place(as(api.IOC, sell)), place(as(api.Market, limit(1, api.Sell, 0, 1))), amend(2, 1, 20, 3), depth(api.Buy, 5)}},
		{"the next order is there, broken", put(schema.Order(6), ""), api.ErrShort, append(comers(), place(free), place(sell), place(post), status(6), cancel(1, 6))},
		{"nothing is held", both(balance(1, 1, 500, 0), balance(2, 2, 50, 0)), api.ErrFunds, []call{cancel(1, 4), cancel(1, 5), cancel(2, 1), amend(1, 4, 8, 5), amend(1, 4, 7, 5), amend(2, 1, 13, 3), place(limit(3, api.Sell, 9, 1))}},
		{"the rank, and the second maker's Goods", both(number("rank", "\x80\x00"), put(schema.Balance(2, 2), "\x02")), api.ErrShort, comers()},
		{"the rank, and nothing is held", both(number("rank", "\x80\x00"), balance(1, 1, 500, 0)), api.ErrForm, []call{amend(1, 4, 8, 6), amend(1, 4, 7, 5)}},
		{"the id, and a place", both(number("id", "\x80\x00"), placeOf(api.Sell, 11, 2, 90)), api.ErrForm, []call{place(limit(1, api.Buy, 11, 5)), place(as(api.IOC, limit(1, api.Buy, 11, 5)))}},
		{"the id, and a place", both(number("id", "\x80\x00"), placeOf(api.Sell, 11, 2, 90)), api.ErrBroken, []call{place(as(api.FOK, limit(1, api.Buy, 11, 5)))}},
		{"the id, of one that is killed", number("id", "\x80"), api.ErrKill, []call{place(as(api.FOK, limit(1, api.Buy, 11, 7)))}},
		{"the id, of one that crosses", number("id", "\x80"), api.ErrCross, []call{place(as(api.PostOnly, limit(1, api.Buy, 11, 7)))}},
		{"too much is free", balance(1, 1, greatest-30, 30), api.ErrOver, []call{cancel(1, 4), amend(1, 4, 9, 5)}},
	} {
		for _, x := range c.calls {
			o := market(t, street()...)
			c.how(o)
			x.what = fmt.Sprint(c.what, ": ", x.what)
			refused(t, o, x, c.fault)
		}
	}
}

// TestBrokenCost: P26.1 to P26.3, an order that rests, though nobody can hold what it needs.
func TestBrokenCost(t *testing.T) {
	over := func() *overlay.Overlay {
		o := market(t, deposit(1, api.Cash, greatest), deposit(2, api.Goods, most))
		x := api.Order{ID: 9, Account: 1, Side: api.Buy, Price: most, Size: most, Left: most, Expiry: 5, State: api.Resting}
		want(t, "Put", book.Put(o, x), api.OK)
		return o
	}
	for _, c := range []call{cancel(1, 9), amend(1, 9, 1, 1), tick(5), place(limit(2, api.Sell, most, most)), place(as(api.Market, limit(2, api.Sell, 0, 1<<23)))} {
		refused(t, over(), c, api.ErrOver)
	}
	refused(t, over(), place(limit(2, api.Sell, 1, 1)), api.ErrFunds)
}

// TestBrokenElsewhere: what an operation doesn't come to isn't its error.
func TestBrokenElsewhere(t *testing.T) {
	for _, c := range []struct {
		what  string
		how   func(*overlay.Overlay)
		calls []call
	}{
		{"the id", number("id", "\x80"), []call{cancel(1, 4), amend(1, 4, 7, 5), tick(1), status(4), money(1), depth(api.Buy, 5), deposit(1, 1, 1)}},
		{"the rank", number("rank", "\x80"), []call{cancel(1, 4), amend(1, 4, 8, 4), tick(1), status(4), deposit(1, 1, 1)}},
		{"the clock", number("clock", "\x80"), append(comers(), place(limit(1, api.Buy, 10, 1)), place(as(api.PostOnly, limit(1, api.Buy, 10, 1))), cancel(1, 4), amend(1, 4, 7, 5), status(4))},
		{"the payer's Cash", put(schema.Balance(1, 1), "\x01\x02"), []call{place(limit(1, api.Sell, 10, 1)), status(4), money(2), deposit(1, 2, 5)}},
		{"the third maker's order", put(schema.Order(1), "\x02\x02"), comers()[:1]},
		{"a place behind", placeOf(api.Sell, 12, 0, 90), append(comers()[:1:1], comers()[2], depth(api.Buy, 5), amend(1, 4, 7, 5), place(as(api.PostOnly, limit(1, api.Buy, 10, 1))))},
		{"the best Sell", placeOf(api.Sell, 1, 0, 2), []call{amend(1, 4, 8, 6), place(limit(1, api.Sell, 10, 1)), place(as(api.PostOnly, limit(1, api.Sell, 10, 1))), depth(api.Buy, 9), cancel(1, 4)}},
		{"another order", put(schema.Order(90), ""), append(comers(), tick(5), status(1))},
	} {
		for _, x := range c.calls {
			o := market(t, street()...)
			c.how(o)
			want(t, fmt.Sprint(c.what, ": ", x.what), x.do(engine.On(o)).Err, api.OK)
		}
	}
}

// TestBrokenTick: P26.3, one order behind the other, up to the first error; then nothing is changed.
func TestBrokenTick(t *testing.T) {
	over := func(how ...func(*overlay.Overlay)) *overlay.Overlay {
		o := market(t, deposit(1, api.Cash, 100), deposit(2, api.Goods, 10),
			place(until(5, limit(1, api.Buy, 2, 3))), place(until(6, limit(2, api.Sell, 9, 2))), place(until(7, limit(1, api.Buy, 3, 3))))
		for _, do := range how {
			do(o)
		}
		return o
	}
	none := put(schema.Expiry(6, 1), "")
	for _, c := range []struct {
		how   []func(*overlay.Overlay)
		fault api.Errno
		from  uint64 // the first time at which it is told
	}{
		{[]func(*overlay.Overlay){none}, api.ErrBroken, 6},
		{[]func(*overlay.Overlay){put(schema.Expiry(0, 9), "")}, api.ErrBroken, 0},
		{[]func(*overlay.Overlay){put(schema.Expiry(7, 3)+"x", "")}, api.ErrKey, 7},
		{[]func(*overlay.Overlay){put(schema.Order(2), "")}, api.ErrShort, 6},
		{[]func(*overlay.Overlay){balance(2, 2, 8, 1)}, api.ErrFunds, 6},
		{[]func(*overlay.Overlay){balance(1, 1, 8, 14)}, api.ErrFunds, 7},
		{[]func(*overlay.Overlay){balance(1, 1, greatest-5, 5)}, api.ErrOver, 5},
		{[]func(*overlay.Overlay){put(schema.Balance(1, 1), "\x02\x01")}, api.ErrUnder, 5},
		{[]func(*overlay.Overlay){put(schema.Balance(1, 1), "\x02\x01"), none}, api.ErrUnder, 5},
		{[]func(*overlay.Overlay){balance(1, 1, 8, 5), none}, api.ErrFunds, 5},
		{[]func(*overlay.Overlay){balance(2, 2, 8, 1), none}, api.ErrBroken, 6},
		{[]func(*overlay.Overlay){balance(2, 2, 8, 1), put(schema.Expiry(6, 4), "")}, api.ErrFunds, 6},
		{[]func(*overlay.Overlay){number("clock", "\x00\x00"), put(schema.Expiry(0, 9), "")}, api.ErrForm, 0},
	} {
		for now := range uint64(9) {
			o := over(c.how...)
			if now >= c.from {
				refused(t, o, tick(now), c.fault)
				continue
			}
			wanted := engine.Reply{N: now}
			for id := uint64(1); id <= 3 && now >= 4+id; id++ {
				wanted.Gone = append(wanted.Gone, id)
			}
			answers(t, o, tick(now), wanted)
		}
	}
}

// TestWholeAmongOthers: P26.1, an error undoes what the operation did, not what was done ahead of it.
func TestWholeAmongOthers(t *testing.T) {
	s := overlay.New(all(market(t, street()...))...)
	below := all(s)
	o := overlay.Over(s)
	done(t, o, deposit(4, api.Cash, 500), place(limit(4, api.Buy, 11, 5)))
	ahead := all(o)
	mark := o.Mark()
	placeOf(api.Sell, 12, 0, 90)(o)
	refused(t, o, place(limit(4, api.Buy, 12, 2)), api.ErrBroken)
	refused(t, o, place(as(api.FOK, limit(4, api.Buy, 11, 2))), api.ErrBroken)
	o.Back(mark)
	refused(t, o, place(as(api.FOK, limit(4, api.Buy, 11, 2))), api.ErrKill)
	stand(t, "ahead of it", o, ahead)
	r := engine.On(o).Place(as(api.FOK, limit(4, api.Buy, 12, 2)))
	want(t, "the next id", r.ID, 7)
	list(t, "trades", r.Trades, []api.Trade{{Maker: 3, Taker: 7, Price: 11, Size: 1}, {Maker: 1, Taker: 7, Price: 12, Size: 1}})
	stand(t, "below", s, below)
	behind := all(o)
	s.Do(o.Changes())
	stand(t, "done below", s, behind)
}
