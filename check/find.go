package check

import (
	"cmp"
	"iter"

	"bourse/amount"
	"bourse/api"
	"bourse/dump"
	"bourse/order"
)

// holder is an account, and a thing that it may have.
type holder struct {
	account uint64
	thing   int
}

// nets: the things whose balances together aren't their nets.
func nets(d dump.Dump) []Finding {
	var l []Finding
	for _, thing := range [...]int{api.Cash, api.Goods} {
		all, e := together(d, thing)
		if e != api.OK || uint64(all) != d.Net[thing-1] {
			l = append(l, Finding{Kind: unlikeNet, Thing: thing})
		}
	}
	return l
}

// together: all that is free, and held, of a thing.
func together(d dump.Dump, thing int) (int64, api.Errno) {
	var parts []int64
	for _, a := range d.Accounts {
		if a.Thing == thing {
			parts = append(parts, a.Money.Free, a.Money.Held)
		}
	}
	return amount.Sum(parts...)
}

// holdings: who holds something else than is needed, and who holds nothing that is told, but needs something.
func holdings(d dump.Dump) []Finding {
	var l []Finding
	told := map[holder]struct{}{}
	find := func(h holder) { l = append(l, Finding{Kind: unlikeNeeds, Account: h.account, Thing: h.thing}) }
	own := byAccounts(d)
	for _, a := range d.Accounts {
		h := holder{a.ID, a.Thing}
		told[h] = struct{}{}
		n, e := Needs(dump.Dump{Orders: own[a.ID]}, a.ID, a.Thing)
		if e != api.OK || n != a.Money.Held {
			find(h)
		}
	}
	for x := range resting(d) {
		// Of what is too much the thing is told, too.
		thing, _, _ := order.Needs(x)
		h := holder{x.Account, thing}
		if _, known := told[h]; !known {
			told[h] = struct{}{}
			find(h)
		}
	}
	return l
}

// byAccounts: each one's orders, so that nobody's are gone through for the balances of others.
func byAccounts(d dump.Dump) map[uint64][]api.Order {
	own := map[uint64][]api.Order{}
	for _, x := range d.Orders {
		own[x.Account] = append(own[x.Account], x)
	}
	return own
}

// expiries: the orders that rest beyond their time.
func expiries(d dump.Dump) []Finding {
	var l []Finding
	for x := range resting(d) {
		if x.Expiry != 0 && x.Expiry <= d.Clock {
			l = append(l, Finding{Kind: late, ID: x.ID})
		}
	}
	return l
}

// crossing: the best Buy, where it would meet the best Sell.
func crossing(d dump.Dump) []Finding {
	buy, bought := best(d, api.Buy)
	sell, sold := best(d, api.Sell)
	if !bought || !sold || !order.Crosses(api.Buy, buy.Price, sell.Price) {
		return nil
	}
	return []Finding{{Kind: crossed, ID: buy.ID}}
}

// numbers: the orders whose numbers, or ranks, weren't given yet.
func numbers(d dump.Dump) []Finding {
	var l []Finding
	for _, x := range d.Orders {
		if x.ID > d.IDs || x.Rank > d.Ranks {
			l = append(l, Finding{Kind: unnumbered, ID: x.ID})
		}
	}
	return l
}

// resting: the orders that rest.
func resting(d dump.Dump) iter.Seq[api.Order] {
	return func(yield func(api.Order) bool) {
		for _, x := range d.Orders {
			if x.State == api.Resting && !yield(x) {
				return
			}
		}
	}
}

// best: who rests first on a side; does anybody?
func best(d dump.Dump, side int) (first api.Order, some bool) {
	for x := range resting(d) {
		if x.Side == side && (!some || ahead(x, first)) {
			first, some = x, true
		}
	}
	return first, some
}

// ahead: does an order stand ahead of another one of its side?
func ahead(a, b api.Order) bool {
	if a.Price != b.Price {
		return order.Better(a.Side, a.Price, b.Price)
	}
	return cmp.Or(cmp.Compare(a.Rank, b.Rank), cmp.Compare(a.ID, b.ID)) < 0
}
