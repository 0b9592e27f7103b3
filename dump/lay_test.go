package dump_test

import (
	"fmt"
	"math"
	"slices"
	"testing"

	"bourse/api"
	"bourse/dump"
	"bourse/overlay"
)

// lays: a Lay over pairs answers so, and leaves these pairs; what is handed in stays.
func lays(t *testing.T, what string, d dump.Dump, ahead []api.Pair, fault api.Errno, behind []api.Pair) {
	t.Helper()
	s := overlay.New(ahead...)
	o := overlay.Over(s)
	was := dump.Dump{Clock: d.Clock, IDs: d.IDs, Ranks: d.Ranks, Net: d.Net, Accounts: slices.Clone(d.Accounts), Orders: slices.Clone(d.Orders)}
	want(t, what+": error", d.Lay(o), fault)
	listed(t, what, all(o), all(overlay.New(behind...)))
	listed(t, what+": below", all(s), all(overlay.New(ahead...)))
	alike(t, what+": the dump", d, was)
}

// TestLay: P29.3, over nothing: each thing where it belongs.
func TestLay(t *testing.T) {
	lays(t, "nothing", dump.Dump{}, nil, api.OK, nil)
	lays(t, "all", sound(), nil, api.OK, pairs(sound()))
	for _, n := range []uint64{1, 128, 1 << 56, half, end} {
		for name, d := range map[string]dump.Dump{"clock": {Clock: n}, "id": {IDs: n}, "rank": {Ranks: n}, "net1": {Net: [2]uint64{n, 0}}, "net2": {Net: [2]uint64{0, n}}} {
			lays(t, fmt.Sprint(name, n), d, nil, api.OK, []api.Pair{{Key: named(name), Value: laid(n)}})
		}
	}
	turned := sound()
	slices.Reverse(turned.Accounts)
	slices.Reverse(turned.Orders)
	lays(t, "in another order", turned, nil, api.OK, pairs(sound()))
}

// TestLayOver: P29.3, over what is there: numbers are replaced (0: not there), balances of others stay, orders leave the places that they had.
func TestLayOver(t *testing.T) {
	ahead := but(func(d *dump.Dump) {
		d.Clock, d.Accounts[0].Money.Free = 77, 88
		d.Orders[0].Price, d.Orders[0].Rank, d.Orders[0].Expiry = 11, 7, 700
		d.Orders[1].State, d.Orders[1].Left = api.Resting, 4
		d.Accounts = append(d.Accounts, dump.Account{ID: 9, Thing: 1, Money: api.Balance{Free: 1}})
		d.Orders = append(d.Orders, api.Order{ID: 77, Account: 1, Side: api.Sell, Price: 1, Size: 1, Left: 1, Expiry: 1, State: api.Resting})
	})
	behind := but(func(d *dump.Dump) {
		d.Accounts = append(d.Accounts, ahead.Accounts[5])
		d.Orders = append(d.Orders, ahead.Orders[5])
	})
	lays(t, "over others", sound(), pairs(ahead), api.OK, pairs(behind))
	lays(t, "over itself", sound(), pairs(sound()), api.OK, pairs(sound()))
	lays(t, "nothing over all", dump.Dump{}, pairs(sound()), api.OK, pairs(dump.Dump{Accounts: sound().Accounts, Orders: sound().Orders}))
	broken := []api.Pair{{Key: named("clock")}, {Key: named("net2"), Value: "\x80"}, {Key: balanceKey(1, 1)}, {Key: named("net3"), Value: "broken"}}
	lays(t, "over broken things", sound(), broken, api.OK, append(pairs(sound()), broken[3]))
	twice := dump.Dump{
		Accounts: []dump.Account{{ID: 1, Thing: 1, Money: api.Balance{Free: 1}}, {ID: 1, Thing: 1, Money: api.Balance{Free: 2}}},
		Orders:   []api.Order{sound().Orders[0], but(func(d *dump.Dump) { d.Orders[0].Price++ }).Orders[0]},
	}
	lays(t, "the last one counts", twice, nil, api.OK, pairs(dump.Dump{Accounts: twice.Accounts[1:], Orders: twice.Orders[1:]}))
}

// TestLayNil: an overlay that isn't there has nothing.
func TestLayNil(t *testing.T) {
	want(t, "nothing", dump.Dump{}.Lay(nil), api.OK)
	want(t, "all", sound().Lay(nil), api.OK)
	want(t, "an account 0", dump.Dump{Accounts: []dump.Account{{Thing: 1, Money: api.Balance{Free: 1}}}}.Lay(nil), api.ErrArg)
}

// accountsWrong: balances that can't be laid; of two errors the first one.
func accountsWrong() map[api.Errno][]dump.Account {
	one := api.Balance{Free: 1}
	return map[api.Errno][]dump.Account{
		api.ErrArg: {
			{ID: 0, Thing: 1, Money: one}, {ID: 0, Thing: 2, Money: one}, {ID: 0, Thing: 3, Money: one}, {ID: 0, Thing: 1}, {},
			{ID: 1, Thing: 0, Money: one}, {ID: 1, Thing: 3, Money: one}, {ID: 1, Thing: -1, Money: one}, {ID: 1, Thing: math.MinInt, Money: one}, {ID: 1, Thing: math.MaxInt, Money: one}, {ID: 1, Thing: 1 + 1<<32, Money: one}, {ID: 1, Thing: 2 - 1<<32, Money: one},
			{ID: 1, Thing: 1}, {ID: end, Thing: 2}, {ID: 0, Thing: 1, Money: api.Balance{Free: -1}}, {ID: 1, Thing: 3, Money: api.Balance{Free: greatest, Held: 1}},
		},
		api.ErrUnder: {
			{ID: 1, Thing: 1, Money: api.Balance{Free: -1}}, {ID: 1, Thing: 2, Money: api.Balance{Held: -1}}, {ID: end, Thing: 1, Money: api.Balance{Free: 1, Held: -1}}, {ID: 1, Thing: 1, Money: api.Balance{Free: -1, Held: 1}},
			{ID: 1, Thing: 1, Money: api.Balance{Free: math.MinInt64, Held: math.MinInt64}}, {ID: 1, Thing: 1, Money: api.Balance{Free: greatest, Held: -1}},
		},
		api.ErrOver: {
			{ID: 1, Thing: 1, Money: api.Balance{Free: greatest, Held: 1}}, {ID: 1, Thing: 2, Money: api.Balance{Free: 1, Held: greatest}}, {ID: 1, Thing: 2, Money: api.Balance{Free: greatest, Held: greatest}}, {ID: 1, Thing: 2, Money: api.Balance{Free: 1 << 62, Held: 1 << 62}},
		},
	}
}

// ordersWrong: orders that can't be laid.
func ordersWrong() map[api.Errno][]api.Order {
	one := func(change func(*api.Order)) api.Order {
		x := sound().Orders[0]
		change(&x)
		return x
	}
	return map[api.Errno][]api.Order{
		api.ErrArg:   {one(func(x *api.Order) { x.ID = 0 }), one(func(x *api.Order) { x.Account = 0 }), {}},
		api.ErrSide:  {one(func(x *api.Order) { x.Side = 0 }), one(func(x *api.Order) { x.Side = 3 }), one(func(x *api.Order) { x.Side, x.Price = -1, 0 })},
		api.ErrPrice: {one(func(x *api.Order) { x.Price = 0 }), one(func(x *api.Order) { x.Price, x.Size = top+1, 0 })},
		api.ErrSize:  {one(func(x *api.Order) { x.Size = top + 1 }), one(func(x *api.Order) { x.Left = 5 }), one(func(x *api.Order) { x.Left, x.State = -1, 0 })},
		api.ErrKind:  {one(func(x *api.Order) { x.State = 0 }), one(func(x *api.Order) { x.State = 5 }), one(func(x *api.Order) { x.State = api.Filled }), one(func(x *api.Order) { x.Left = 0 })},
	}
}

// TestLayAccounts: P29.3, a balance that can't be: what was put ahead of it stays, nothing behind it is put.
func TestLayAccounts(t *testing.T) {
	for fault, l := range accountsWrong() {
		for _, wrong := range l {
			for i := range 6 {
				d := but(func(d *dump.Dump) { d.Accounts = slices.Insert(d.Accounts, i, wrong) })
				ahead := but(func(d *dump.Dump) { d.Accounts, d.Orders = d.Accounts[:i], nil })
				what := fmt.Sprintf("%+v at %d", wrong, i)
				lays(t, what, d, nil, fault, pairs(ahead))
				d.Orders = append([]api.Order{{}}, d.Orders...)
				lays(t, what+", and an order", d, nil, fault, pairs(ahead))
				for other, more := range accountsWrong() {
					if other != fault {
						d.Accounts = slices.Insert(d.Accounts[:i+1], i+1, more[0])
						lays(t, what+", and another one", d, nil, fault, pairs(ahead))
					}
				}
			}
		}
	}
}

// TestLayOrders: P29.3, an order that can't be: likewise.
func TestLayOrders(t *testing.T) {
	for fault, l := range ordersWrong() {
		for _, wrong := range l {
			for i := range 6 {
				d := but(func(d *dump.Dump) { d.Orders = slices.Insert(d.Orders, i, wrong) })
				ahead := but(func(d *dump.Dump) { d.Orders = d.Orders[:i] })
				what := fmt.Sprintf("%+v at %d", wrong, i)
				lays(t, what, d, nil, fault, pairs(ahead))
				for other, more := range ordersWrong() {
					if other != fault {
						d.Orders = slices.Insert(d.Orders[:i+1], i+1, more[0])
						lays(t, what+", and another one", d, nil, fault, pairs(ahead))
					}
				}
			}
		}
	}
}

// TestLayBroken: P29.3, layer 24's error, of the order that was there, behind that of the one that comes.
func TestLayBroken(t *testing.T) {
	_, _, orders := harms()
	for _, b := range orders {
		for i, x := range sound().Orders {
			was := []api.Pair{{Key: orderKey(x.ID), Value: b.value}}
			ahead := but(func(d *dump.Dump) { d.Orders = d.Orders[:i] })
			what := fmt.Sprintf("over %x", b.value)
			lays(t, what, sound(), was, b.fault, append(pairs(ahead), was...))
			d := sound()
			d.Orders[i].Side = 3
			lays(t, what+", a side", d, was, api.ErrSide, append(pairs(ahead), was...))
		}
	}
}
