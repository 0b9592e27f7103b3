package check_test

import (
	"fmt"
	"math"
	"testing"

	"bourse/api"
	"bourse/check"
	"bourse/dump"
)

// need: Needs' answer.
func need(t *testing.T, what string, d dump.Dump, account uint64, thing int, wanted int64, fault api.Errno) {
	t.Helper()
	n, e := check.Needs(d, account, thing)
	want(t, what, n, wanted)
	want(t, what+": error", e, fault)
}

// TestNeeds: P30.2, of all accounts and things of a dump with which nothing is wrong.
func TestNeeds(t *testing.T) {
	d := sound()
	for account, l := range map[uint64][4]int64{0: {}, 1: {0, 22, 0, 0}, 2: {0, 12, 5, 0}, 3: {0, 0, 6, 0}, 4: {}, end: {}} {
		for thing, n := range l {
			need(t, fmt.Sprint("of ", account, thing), d, account, thing, n, api.OK)
			need(t, fmt.Sprint("of nothing ", account, thing), dump.Dump{}, account, thing, 0, api.OK)
		}
		for _, thing := range []int{-1, math.MinInt, math.MaxInt, 1 + 1<<32} {
			need(t, fmt.Sprint("of ", account, thing), d, account, thing, 0, api.OK)
		}
	}
	for account := range uint64(4) {
		for _, a := range d.Accounts {
			if a.ID == account {
				need(t, fmt.Sprint("held by ", account), d, account, a.Thing, a.Money.Held, api.OK)
			}
		}
	}
}

// TestNeedsOrders: P30.2, those that rest alone, however often a number is there; balances don't count.
func TestNeedsOrders(t *testing.T) {
	for state := range 6 {
		x := rests(1, 7, api.Buy, 3, 5)
		x.State = state
		n := int64(0)
		if state == api.Resting {
			n = 15
		}
		need(t, fmt.Sprint("state ", state), dump.Dump{Orders: []api.Order{x}}, 7, api.Cash, n, api.OK)
		need(t, fmt.Sprint("state ", state), dump.Dump{Orders: []api.Order{x, x, x}}, 7, api.Cash, 3*n, api.OK)
	}
	d := dump.Dump{Accounts: []dump.Account{has(7, 1, 5, 9)}, Orders: []api.Order{rests(0, 7, api.Sell, 3, 5), rests(0, 0, api.Sell, 3, 4), rests(9, 7, 3, 3, 2), rests(9, 7, 0, 3, 1)}}
	need(t, "of any other side Goods", d, 7, api.Goods, 8, api.OK)
	need(t, "of nobody", d, 0, api.Goods, 4, api.OK)
	need(t, "no Cash", d, 7, api.Cash, 0, api.OK)
}

// TestNeedsErrors: P30.2, what is too much together, and layer 20's error of one that rests, whichever thing it holds.
func TestNeedsErrors(t *testing.T) {
	with := func(l ...api.Order) dump.Dump { return dump.Dump{Orders: l} }
	great := rests(1, 7, api.Sell, 1, greatest)
	one := rests(2, 7, api.Sell, 1, 1)
	buy := rests(3, 7, api.Buy, 1, 4)
	need(t, "the greatest", with(great, buy), 7, api.Goods, greatest, api.OK)
	need(t, "one more", with(great, one), 7, api.Goods, 0, api.ErrOver)
	need(t, "one ahead", with(one, great), 7, api.Goods, 0, api.ErrOver)
	need(t, "too many Goods, of Cash", with(great, one, buy), 7, api.Cash, 4, api.OK)
	need(t, "of both, apart", with(great, rests(4, 7, api.Buy, greatest, 1)), 7, api.Cash, greatest, api.OK)
	need(t, "Cash one more", with(buy, rests(4, 7, api.Buy, greatest-3, 1)), 7, api.Cash, 0, api.ErrOver)
	need(t, "Cash up to the end", with(buy, rests(4, 7, api.Buy, greatest-4, 1)), 7, api.Cash, greatest, api.OK)
	for fault, wrong := range map[api.Errno]api.Order{
		api.ErrOver:  rests(5, 7, api.Buy, top, top),
		api.ErrUnder: rests(5, 7, api.Buy, 1, -1),
	} {
		for _, thing := range []int{api.Cash, api.Goods, 0, 3} {
			what := fmt.Sprint(fault, " of ", thing)
			need(t, what, with(wrong), 7, thing, 0, fault)
			need(t, what+", ahead of others", with(wrong, one, buy), 7, thing, 0, fault)
			need(t, what+", behind others", with(one, buy, wrong), 7, thing, 0, fault)
			want := map[int]int64{api.Goods: 1}[thing]
			other := wrong
			other.Account = 8
			need(t, what+", of another one", with(one, other), 7, thing, want, api.OK)
			closed := wrong
			closed.State = api.Cancelled
			need(t, what+", closed", with(one, closed), 7, thing, want, api.OK)
		}
	}
	need(t, "the first one of two", with(rests(5, 7, api.Buy, 1, -1), rests(6, 7, api.Buy, top, top)), 7, api.Goods, 0, api.ErrUnder)
	need(t, "the other way round", with(rests(6, 7, api.Buy, top, top), rests(5, 7, api.Buy, 1, -1)), 7, api.Goods, 0, api.ErrOver)
}
