package check_test

import (
	"fmt"
	"math"
	"slices"
	"testing"

	"bourse/api"
	"bourse/check"
	"bourse/dump"
	"bourse/order"
	"bourse/overlay"
	"bourse/schema"
	"bourse/varint"
)

const (
	greatest = math.MaxInt64
	end      = math.MaxUint64
	half     = 1 << 63
	top      = 1 << 40 // the greatest price, the greatest size
)

// want: a test fails, if something is another thing than was wanted.
func want[T comparable](t *testing.T, what string, got, wanted T) {
	t.Helper()
	if got != wanted {
		t.Errorf("%s: %+v, wanted %+v", what, got, wanted)
	}
}

// pairs: all that stands of a dump, whatever it has.
func pairs(d dump.Dump) []api.Pair {
	var l []api.Pair
	for name, n := range map[string]uint64{"clock": d.Clock, "id": d.IDs, "rank": d.Ranks, "net1": d.Net[0], "net2": d.Net[1]} {
		k, _ := schema.Number(name)
		l = append(l, api.Pair{Key: k, Value: varint.Num(n)})
	}
	for _, a := range d.Accounts {
		l = append(l, api.Pair{Key: schema.Balance(a.ID, a.Thing), Value: order.Money(a.Money)})
	}
	for _, x := range d.Orders {
		l = append(l, api.Pair{Key: schema.Order(x.ID), Value: order.Bytes(x)})
	}
	return l
}

// finds: Of of what a dump tells finds this.
func finds(t *testing.T, what string, d dump.Dump, wanted ...check.Finding) {
	t.Helper()
	s := overlay.New(pairs(d)...)
	was := slices.Collect(s.Range("", ""))
	l, e := check.Of(s)
	want(t, what+": error", e, api.OK)
	if !slices.Equal(l, wanted) {
		t.Errorf("%s: %+v, wanted %+v", what, l, wanted)
	}
	want(t, what+": what there is stays", slices.Equal(slices.Collect(s.Range("", "")), was), true)
}

// The findings.

func net(thing int) check.Finding { return check.Finding{Kind: 1, Thing: thing} }

func needs(account uint64, thing int) check.Finding {
	return check.Finding{Kind: 2, Account: account, Thing: thing}
}

func late(id uint64) check.Finding { return check.Finding{Kind: 3, ID: id} }

func crossed(id uint64) check.Finding { return check.Finding{Kind: 4, ID: id} }

func unnumbered(id uint64) check.Finding { return check.Finding{Kind: 5, ID: id} }

// has: an account's balance.
func has(account uint64, thing int, free, held int64) dump.Account {
	return dump.Account{ID: account, Thing: thing, Money: api.Balance{Free: free, Held: held}}
}

// rests: an order that rests.
func rests(id, account uint64, side int, price, left int64) api.Order {
	return api.Order{ID: id, Account: account, Side: side, Price: price, Size: left, Left: left, Rank: id, State: api.Resting}
}

// sound: a dump with which nothing is wrong.
func sound() dump.Dump {
	filled := rests(4, 3, api.Buy, 1, 7)
	filled.Left, filled.State = 0, api.Filled
	gone := rests(5, 3, api.Sell, 2, 7)
	gone.State, gone.Expiry = api.Expired, 5
	until := rests(6, 2, api.Buy, 4, 3)
	until.Expiry = 6
	part := rests(7, 1, api.Buy, 4, 3)
	part.Size = 9
	return dump.Dump{
		Clock: 5, IDs: 9, Ranks: 9, Net: [2]uint64{100, 20},
		Accounts: []dump.Account{has(1, 1, 0, 22), has(1, 2, 2, 0), has(2, 1, 66, 12), has(2, 2, 7, 5), has(3, 2, 0, 6)},
		Orders: []api.Order{
			rests(1, 1, api.Buy, 5, 2), rests(2, 2, api.Sell, 6, 5), rests(3, 3, api.Sell, 7, 6), filled, gone, until, part,
		},
	}
}

// but: a dump, with a change.
func but(change func(*dump.Dump)) dump.Dump {
	d := sound()
	change(&d)
	return d
}

// TestNothing: P30.1.
func TestNothing(t *testing.T) {
	finds(t, "nothing", dump.Dump{})
	finds(t, "sound", sound())
	for what, r := range map[string]overlay.Reader{"over nothing": overlay.Over(nil), "nil": (*overlay.Overlay)(nil), "no shelf": (*overlay.Shelf)(nil)} {
		l, e := check.Of(r)
		want(t, what, len(l) == 0 && e == api.OK, true)
	}
}

// TestNets: P30.1, kind 1: what is free and held of a thing together isn't its net.
func TestNets(t *testing.T) {
	finds(t, "Cash more", but(func(d *dump.Dump) { d.Net[0]++ }), net(1))
	finds(t, "Cash less", but(func(d *dump.Dump) { d.Net[0]-- }), net(1))
	finds(t, "Goods more", but(func(d *dump.Dump) { d.Net[1]++ }), net(2))
	finds(t, "Goods less", but(func(d *dump.Dump) { d.Net[1]-- }), net(2))
	finds(t, "both", but(func(d *dump.Dump) { d.Net[0], d.Net[1] = 0, 0 }), net(1), net(2))
	finds(t, "one for the other", but(func(d *dump.Dump) { d.Net[0], d.Net[1] = d.Net[1], d.Net[0] }), net(1), net(2))
	finds(t, "more is free", but(func(d *dump.Dump) { d.Accounts[1].Money.Free++ }), net(2))
	finds(t, "an account more", but(func(d *dump.Dump) { d.Accounts = append(d.Accounts, has(end, 1, 1, 0)) }), net(1))
	finds(t, "an account less", but(func(d *dump.Dump) { d.Accounts = slices.Delete(d.Accounts, 1, 2) }), net(2))
	finds(t, "free for held", but(func(d *dump.Dump) { d.Accounts[1].Money.Free, d.Accounts[1].Money.Held = 0, 2 }), needs(1, 2))
	finds(t, "a net alone", dump.Dump{Net: [2]uint64{0, 1}}, net(2))
	finds(t, "balances alone", dump.Dump{Accounts: []dump.Account{has(1, 1, 1, 0), has(1, 2, 1, 0)}}, net(1), net(2))
	finds(t, "of nobody", dump.Dump{Net: [2]uint64{5, 0}, Accounts: []dump.Account{has(0, 1, 5, 0)}})
	finds(t, "things that aren't", dump.Dump{Accounts: []dump.Account{has(1, -1, 5, 0), has(1, 0, 5, 0), has(1, 3, 5, 0)}})
	finds(t, "a balance of nothing", dump.Dump{Accounts: []dump.Account{has(1, 1, 0, 0)}})
}

// TestNetsEnd: P30.1, kind 1: up to 2^63 - 1; what doesn't fit 63 bits counts as wrong, though it be the net.
func TestNetsEnd(t *testing.T) {
	one := func(n uint64, l ...dump.Account) dump.Dump {
		return dump.Dump{Net: [2]uint64{n, 0}, Accounts: l}
	}
	finds(t, "the greatest", one(greatest, has(1, 1, greatest, 0)))
	finds(t, "the greatest, in parts", one(greatest, has(1, 1, greatest-2, 0), has(2, 1, 1, 0), has(3, 1, 1, 0)))
	finds(t, "the greatest, and one more", one(greatest, has(1, 1, greatest, 0), has(2, 1, 1, 0)), net(1))
	finds(t, "2^63", one(half, has(1, 1, greatest, 0), has(2, 1, 1, 0)), net(1))
	finds(t, "2^64 - 2", one(end-1, has(1, 1, greatest, 0), has(2, 1, greatest, 0)), net(1))
	finds(t, "2^64 - 1", one(end, has(1, 1, greatest, 0), has(2, 1, greatest, 0), has(3, 1, 1, 0)), net(1))
	finds(t, "2^64", one(0, has(1, 1, greatest, 0), has(2, 1, greatest, 0), has(3, 1, 2, 0)), net(1))
	finds(t, "2^64 + 1", one(1, has(1, 1, greatest, 0), has(2, 1, greatest, 0), has(3, 1, 3, 0)), net(1))
	finds(t, "a net of 2^63", one(half), net(1))
	finds(t, "a net of 2^64 - 1", one(end), net(1))
	d := one(greatest, has(1, 1, greatest, 0), has(1, 2, greatest, 0))
	d.Net[1] = greatest
	finds(t, "things apart", d)
	d.Accounts = append(d.Accounts, has(2, 2, 1, 0))
	finds(t, "Goods beyond", d, net(2))
}

// TestHoldings: P30.1, kind 2: by accounts and things as they are told.
func TestHoldings(t *testing.T) {
	move := func(i int, n int64) dump.Dump {
		return but(func(d *dump.Dump) { d.Accounts[i].Money.Free -= n; d.Accounts[i].Money.Held += n })
	}
	finds(t, "1 more Cash", but(func(d *dump.Dump) { d.Accounts[0].Money.Held++; d.Net[0]++ }), needs(1, 1))
	finds(t, "1 less Cash", move(0, -1), needs(1, 1))
	finds(t, "Goods of 1", move(1, 1), needs(1, 2))
	finds(t, "Cash of 2 held", move(2, 1), needs(2, 1))
	finds(t, "Cash of 2 free", move(2, -1), needs(2, 1))
	finds(t, "Cash of 2 all held", move(2, 66), needs(2, 1))
	finds(t, "Goods of 2", move(3, -5), needs(2, 2))
	finds(t, "Goods of 3", move(4, -6), needs(3, 2))
	finds(t, "an order less", but(func(d *dump.Dump) { d.Orders[0].State = api.Cancelled }), needs(1, 1))
	finds(t, "an order of another one", but(func(d *dump.Dump) { d.Orders[0].Account = 2 }), needs(1, 1), needs(2, 1))
	finds(t, "less left", but(func(d *dump.Dump) { d.Orders[6].Left-- }), needs(1, 1))
	finds(t, "another price", but(func(d *dump.Dump) { d.Orders[6].Price-- }), needs(1, 1))
	finds(t, "another price of a Sell", but(func(d *dump.Dump) { d.Orders[1].Price++ }))
	finds(t, "one that doesn't rest", but(func(d *dump.Dump) { d.Orders[4].State = api.Resting; d.Orders[4].Expiry = 0; d.Orders[4].Price = 9 }), needs(3, 2))
	finds(t, "all", but(func(d *dump.Dump) {
		for i := range d.Accounts {
			d.Accounts[i].Money.Held++
		}
		d.Net[0] += 2
		d.Net[1] += 3
	}), needs(1, 1), needs(1, 2), needs(2, 1), needs(2, 2), needs(3, 2))
	finds(t, "by keys", dump.Dump{Net: [2]uint64{4, 3}, Accounts: []dump.Account{has(end, 1, 0, 1), has(256, 2, 0, 1), has(256, 1, 0, 1), has(255, 1, 0, 2), has(1, 2, 0, 2)}},
		needs(1, 2), needs(255, 1), needs(256, 1), needs(256, 2), needs(end, 1))
	finds(t, "a thing that isn't", dump.Dump{Accounts: []dump.Account{has(1, 3, 5, 1), has(2, 3, 5, 0), has(3, -7, 0, 9)}}, needs(1, 3), needs(3, -7))
	finds(t, "nobody", dump.Dump{Net: [2]uint64{5, 0}, Accounts: []dump.Account{has(0, 1, 0, 5)}}, needs(0, 1))
	finds(t, "a balance of nothing that needs something", dump.Dump{IDs: 1, Ranks: 1, Accounts: []dump.Account{has(1, 1, 0, 0)}, Orders: []api.Order{rests(1, 1, api.Buy, 1, 1)}}, needs(1, 1))
}

// TestHoldingsUntold: P30.1, kind 2: one that isn't told, but needs something, behind all that are, by the orders' numbers, each account and thing once.
func TestHoldingsUntold(t *testing.T) {
	none := dump.Dump{IDs: 9, Ranks: 9}
	with := func(l []dump.Account, orders ...api.Order) dump.Dump {
		d := none
		for i := range orders {
			orders[i].ID, orders[i].Rank = uint64(i+1), uint64(i+1)
		}
		d.Accounts, d.Orders = l, orders
		for _, a := range l {
			d.Net[a.Thing-1] += uint64(a.Money.Free + a.Money.Held)
		}
		return d
	}
	buy := func(account uint64) api.Order { return rests(0, account, api.Buy, 1, 1) }
	sell := func(account uint64) api.Order { return rests(0, account, api.Sell, 2, 1) }
	closed := sell(8)
	closed.State = api.Cancelled
	finds(t, "one", with(nil, buy(7)), needs(7, 1))
	finds(t, "one of Goods", with(nil, sell(7)), needs(7, 2))
	finds(t, "by numbers", with(nil, sell(9), buy(3), closed, buy(9), sell(3), buy(1)), needs(9, 2), needs(3, 1), needs(9, 1), needs(3, 2), needs(1, 1))
	finds(t, "once", with(nil, sell(9), sell(9), buy(9), buy(3), sell(9), buy(9), buy(3)), needs(9, 2), needs(9, 1), needs(3, 1))
	finds(t, "behind those that are told", with([]dump.Account{has(5, 1, 0, 2), has(9, 1, 0, 9)}, buy(5), sell(1), buy(9), sell(5), sell(1)), needs(5, 1), needs(9, 1), needs(1, 2), needs(5, 2))
	finds(t, "those that are told once, too", with([]dump.Account{has(5, 1, 3, 0)}, buy(5), buy(5)), needs(5, 1))
	finds(t, "the other thing is told", with([]dump.Account{has(5, 1, 0, 1)}, buy(5), sell(5)), needs(5, 2))
	finds(t, "told, and right", with([]dump.Account{has(5, 1, 0, 2), has(5, 2, 0, 1)}, buy(5), sell(5), buy(5)))
	finds(t, "closed ones", with(nil, closed, closed))
}

// TestHoldingsEnd: P30.1, kind 2: what doesn't fit 63 bits counts as wrong.
func TestHoldingsEnd(t *testing.T) {
	great := func(id uint64, left int64) api.Order { return rests(id, 1, api.Buy, top, left) } // 2^40 times what is left
	d := dump.Dump{IDs: 9, Ranks: 9, Net: [2]uint64{greatest - top + 1, 0}, Accounts: []dump.Account{has(1, 1, 0, greatest-top+1)}, Orders: []api.Order{great(1, 1<<23-1)}}
	finds(t, "up to the end", d)
	d.Net[0], d.Accounts[0].Money.Held = greatest, greatest
	d.Orders = append(d.Orders, rests(2, 1, api.Buy, top-1, 1))
	finds(t, "at the end", d)
	d.Orders[1].Price++
	finds(t, "beyond it, together", d, needs(1, 1))
	d.Orders = []api.Order{great(1, 1<<23)}
	finds(t, "beyond it, alone", d, needs(1, 1))
	d.Orders = []api.Order{great(1, top)}
	finds(t, "far beyond it", d, needs(1, 1))
	d.Orders[0].State = api.Cancelled
	d.Accounts[0].Money = api.Balance{Free: greatest}
	finds(t, "beyond it, but it doesn't rest", d)
	d.Accounts, d.Net = nil, [2]uint64{}
	d.Orders[0].State = api.Resting
	finds(t, "beyond it, and not told", d, needs(1, 1))
	d.Orders = append(d.Orders, great(2, top), rests(3, 1, api.Sell, top, 3))
	d.Orders[2].Price, d.Orders[0].Price, d.Orders[1].Price = top, top-1, top-1
	finds(t, "twice, and Goods", d, needs(1, 1), needs(1, 2))
	d.Accounts, d.Net[1] = []dump.Account{has(2, 2, 0, 3)}, 3
	d.Orders[2].Account = 2
	finds(t, "another one's aren't wrong by that", d, needs(1, 1))
	// What such an account needs can't be told of any thing.
	d.Orders[2].Account, d.Accounts[0].ID = 1, 1
	finds(t, "its Goods", d, needs(1, 2), needs(1, 1))
}

// TestExpiries: P30.1, kind 3: by orders' numbers.
func TestExpiries(t *testing.T) {
	for expiry, wrong := range map[uint64]bool{0: false, 1: true, 4: true, 5: true, 6: false, half: false, end: false} {
		d := but(func(d *dump.Dump) { d.Orders[0].Expiry = expiry })
		if wrong {
			finds(t, fmt.Sprint("until ", expiry), d, late(1))
		} else {
			finds(t, fmt.Sprint("until ", expiry), d)
		}
	}
	all := but(func(d *dump.Dump) {
		for i := range d.Orders {
			d.Orders[i].Expiry = uint64(i + 1)
		}
	})
	finds(t, "all", all, late(1), late(2), late(3))
	all.Clock = end
	finds(t, "at the end of time", all, late(1), late(2), late(3), late(6), late(7))
	all.Clock = 0
	finds(t, "at its beginning", all)
	finds(t, "in its time", but(func(d *dump.Dump) { d.Clock = 6 }), late(6))
	finds(t, "closed ones", but(func(d *dump.Dump) { d.Orders[3].Expiry, d.Orders[4].Expiry = 1, 1 }))
}

// TestCrossing: P30.1, kind 4: the Buy with the better price, then the lower rank, then the lower number.
func TestCrossing(t *testing.T) {
	type one struct {
		id, rank    uint64
		side, state int
		price       int64
	}
	book := func(l ...one) dump.Dump {
		d := dump.Dump{IDs: 99, Ranks: 99, Net: [2]uint64{0, 0}}
		held := [3]int64{}
		for _, x := range l {
			o := api.Order{ID: x.id, Account: 1, Side: x.side, Price: x.price, Size: 1, Left: 1, Rank: x.rank, State: x.state}
			if x.state == api.Resting {
				held[x.side] += []int64{0, x.price, 1}[x.side]
			}
			d.Orders = append(d.Orders, o)
		}
		for thing := 1; thing <= 2; thing++ {
			if held[thing] > 0 {
				d.Accounts = append(d.Accounts, has(1, thing, 0, held[thing]))
				d.Net[thing-1] = uint64(held[thing])
			}
		}
		return d
	}
	const buy, sell, rest, off = api.Buy, api.Sell, api.Resting, api.Cancelled
	finds(t, "a Buy alone", book(one{1, 1, buy, rest, 5}))
	finds(t, "a Sell alone", book(one{1, 1, sell, rest, 5}))
	finds(t, "below", book(one{1, 1, buy, rest, 4}, one{2, 2, sell, rest, 5}))
	finds(t, "at", book(one{1, 1, buy, rest, 5}, one{2, 2, sell, rest, 5}), crossed(1))
	finds(t, "above", book(one{1, 1, sell, rest, 5}, one{2, 2, buy, rest, 6}), crossed(2))
	finds(t, "the ends", book(one{1, 1, sell, rest, 1}, one{2, 2, buy, rest, top}), crossed(2))
	finds(t, "the other ends", book(one{1, 1, buy, rest, 1}, one{2, 2, sell, rest, top}))
	finds(t, "a Buy that is gone", book(one{1, 1, buy, off, 6}, one{2, 2, sell, rest, 5}, one{3, 3, buy, rest, 4}))
	finds(t, "a Sell that is gone", book(one{1, 1, buy, rest, 6}, one{2, 2, sell, off, 5}, one{3, 3, sell, rest, 7}))
	finds(t, "the best Sell", book(one{1, 1, sell, rest, 9}, one{2, 2, sell, rest, 5}, one{3, 3, sell, rest, 7}, one{4, 4, buy, rest, 6}), crossed(4))
	finds(t, "the better price", book(one{1, 1, buy, rest, 6}, one{2, 2, buy, rest, 8}, one{3, 3, buy, rest, 7}, one{4, 4, sell, rest, 6}), crossed(2))
	finds(t, "the better price, of a greater rank", book(one{1, 9, buy, rest, 8}, one{2, 2, buy, rest, 7}, one{4, 4, sell, rest, 6}), crossed(1))
	finds(t, "the lower rank", book(one{1, 7, buy, rest, 8}, one{2, 5, buy, rest, 8}, one{3, 6, buy, rest, 8}, one{4, 4, sell, rest, 6}), crossed(2))
	finds(t, "the lower number", book(one{1, 7, buy, rest, 8}, one{2, 5, buy, rest, 8}, one{3, 5, buy, rest, 8}, one{4, 4, sell, rest, 6}), crossed(2))
	finds(t, "the lower number, of the better price", book(one{1, 5, buy, rest, 7}, one{3, 5, buy, rest, 8}, one{7, 5, buy, rest, 8}, one{9, 4, sell, rest, 8}), crossed(3))
	finds(t, "once", book(one{1, 1, buy, rest, 8}, one{2, 2, buy, rest, 7}, one{3, 3, sell, rest, 6}, one{4, 4, sell, rest, 5}), crossed(1))
}

// TestNumbers: P30.1, kind 5: by orders' numbers, each order once, whatever its state.
func TestNumbers(t *testing.T) {
	finds(t, "IDs", but(func(d *dump.Dump) { d.IDs = 6 }), unnumbered(7))
	finds(t, "IDs up to it", but(func(d *dump.Dump) { d.IDs = 7 }))
	finds(t, "Ranks", but(func(d *dump.Dump) { d.Ranks = 5 }), unnumbered(6), unnumbered(7))
	finds(t, "Ranks up to it", but(func(d *dump.Dump) { d.Ranks = 7 }))
	finds(t, "both", but(func(d *dump.Dump) { d.IDs, d.Ranks = 6, 6 }), unnumbered(7))
	finds(t, "one by its rank, one by its number", but(func(d *dump.Dump) { d.IDs, d.Orders[1].Rank = 6, 10 }), unnumbered(2), unnumbered(7))
	finds(t, "closed ones", but(func(d *dump.Dump) { d.Orders[3].Rank, d.Orders[4].Rank = 10, end }), unnumbered(4), unnumbered(5))
	finds(t, "a rank of 0", but(func(d *dump.Dump) { d.Orders[3].Rank = 0 }))
	finds(t, "no numbers", but(func(d *dump.Dump) { d.IDs, d.Ranks = 0, 0 }), unnumbered(1), unnumbered(2), unnumbered(3), unnumbered(4), unnumbered(5), unnumbered(6), unnumbered(7))
	last := rests(end, 1, api.Buy, 1, 1)
	last.State = api.Cancelled
	finds(t, "the greatest", dump.Dump{IDs: end, Ranks: end, Orders: []api.Order{last}})
	finds(t, "the greatest, above", dump.Dump{IDs: end - 1, Ranks: end, Orders: []api.Order{last}}, unnumbered(end))
	finds(t, "its rank above", dump.Dump{IDs: end, Ranks: end - 1, Orders: []api.Order{last}}, unnumbered(end))
}

// TestAll: P30.1, all that is wrong, in its order.
func TestAll(t *testing.T) {
	finds(t, "all", but(func(d *dump.Dump) {
		d.Clock, d.IDs, d.Ranks = 6, 5, 3
		d.Net[0]++
		d.Accounts[0].Money.Held++
		d.Accounts[2].Money.Free++
		d.Accounts[4].Money.Free++
		d.Orders[0].Account = 4
		d.Orders[1].Price, d.Orders[1].Expiry = 4, 6
	}), net(1), net(2), needs(1, 1), needs(4, 1), late(2), late(6), crossed(1), unnumbered(4), unnumbered(5), unnumbered(6), unnumbered(7))
}

// TestErrors: P30.1, layer 29's error, and nothing is told, whatever was wrong, too.
func TestErrors(t *testing.T) {
	name := func(s string) string {
		k, _ := schema.Number(s)
		return k
	}
	for what, c := range map[string]struct {
		p     api.Pair
		fault api.Errno
	}{
		"a clock":       {api.Pair{Key: name("clock")}, api.ErrShort},
		"a net":         {api.Pair{Key: name("net2"), Value: "\x80\x00"}, api.ErrForm},
		"a balance":     {api.Pair{Key: schema.Balance(1, 1), Value: "\x01\x00"}, api.ErrUnder},
		"a great one":   {api.Pair{Key: schema.Balance(1, 1), Value: order.Money(api.Balance{Free: greatest, Held: 1})}, api.ErrOver},
		"a key":         {api.Pair{Key: schema.Balance(1, 1) + "x", Value: "\x02\x00"}, api.ErrKey},
		"an order":      {api.Pair{Key: schema.Order(1), Value: "\x01"}, api.ErrShort},
		"the order 0":   {api.Pair{Key: schema.Order(0), Value: order.Bytes(rests(1, 1, 1, 1, 1))}, api.ErrArg},
		"a side":        {api.Pair{Key: schema.Order(1), Value: order.Bytes(rests(1, 1, 3, 1, 1))}, api.ErrSide},
		"a price":       {api.Pair{Key: schema.Order(1), Value: order.Bytes(rests(1, 1, 1, top+1, 1))}, api.ErrPrice},
		"nothing left":  {api.Pair{Key: schema.Order(1), Value: order.Bytes(rests(1, 1, 1, 1, 0))}, api.ErrSize},
		"another state": {api.Pair{Key: schema.Order(1), Value: order.Bytes(api.Order{Account: 1, Side: 1, Price: 1, Size: 1, State: 9})}, api.ErrKind},
	} {
		for _, d := range []dump.Dump{{}, sound(), but(func(d *dump.Dump) { d.Net[0], d.IDs = 0, 0 })} {
			l, e := check.Of(overlay.New(append(pairs(d), c.p)...))
			want(t, what, e, c.fault)
			want(t, what+": findings", len(l), 0)
		}
	}
}
