package engine

import (
	"bourse/amount"
	"bourse/api"
	"bourse/book"
	"bourse/ledger"
	"bourse/match"
)

// right: may it be asked for, whatever there is? The order as it comes.
func (a Ask) right(r *Reply) api.Errno {
	if a.Account == 0 {
		return api.ErrArg
	}
	if a.Side != api.Buy && a.Side != api.Sell {
		return api.ErrSide
	}
	if a.Type < api.Limit || a.Type > api.PostOnly {
		return api.ErrKind
	}
	if a.Type == api.Market && a.Price != 0 {
		return api.ErrPrice
	}
	r.Order = a.order()
	return amount.Right(r.Order.Price, r.Order.Size)
}

// order: the one that is asked for; a Market order's price is the worst that there may be.
func (a Ask) order() api.Order {
	x := api.Order{Account: a.Account, Side: a.Side, Price: a.Price, Size: a.Size, Left: a.Size, Expiry: a.Expiry}
	switch {
	case a.pays():
		x.Price = api.MaxPrice
	case a.Type == api.Market:
		x.Price = 1
	}
	return x
}

// pays: is nothing held for it, so that it pays with what is free?
func (a Ask) pays() bool { return a.Type == api.Market && a.Side == api.Buy }

// rests: does what is left of it?
func (a Ask) rests() bool { return a.Type == api.Limit || a.Type == api.PostOnly }

// inTime: an expiry must be one that comes.
func (g Engine) inTime(a Ask) step {
	return func(*Reply) api.Errno {
		if a.Expiry == 0 {
			return api.OK
		}
		if !a.rests() {
			return api.ErrExpiry
		}
		now, e := ledger.Number(g.o, clock)
		if e != api.OK {
			return e
		}
		if a.Expiry <= now || a.Expiry > api.MaxTime {
			return api.ErrExpiry
		}
		return api.OK
	}
}

// backed: what the order needs is held.
func (g Engine) backed(a Ask) step {
	return func(r *Reply) api.Errno {
		if a.pays() {
			return api.OK
		}
		return g.hold(r.Order)
	}
}

// allowed: whom it meets must be as its type wants it.
func (g Engine) allowed(a Ask) step {
	return func(r *Reply) api.Errno {
		switch a.Type {
		case api.PostOnly:
			return g.apart(r.Order)
		case api.FOK:
			_, left, e := g.plan(a)
			if left > 0 {
				return api.ErrKill
			}
			return e
		}
		return api.OK
	}
}

// plan: whom it meets.
func (g Engine) plan(a Ask) ([]match.Fill, int64, api.Errno) {
	t := match.Taker{Side: a.Side, Price: a.Price, Size: a.Size, Cash: -1}
	if a.pays() {
		b, e := ledger.Balance(g.o, a.Account, api.Cash)
		if e != api.OK {
			return nil, 0, e
		}
		t.Cash = b.Free
	}
	return match.Plan(g.o, t)
}

// number: the order has the next one.
func (g Engine) number(r *Reply) (e api.Errno) {
	r.ID, e = ledger.Next(g.o, ids)
	r.Order.ID = r.ID
	return e
}

// trades: with all whom it meets.
func (g Engine) trades(a Ask) step {
	return func(r *Reply) api.Errno {
		l, left, e := g.plan(a)
		if e != api.OK {
			return e
		}
		for _, f := range l {
			if e := g.trade(r.Order, f, a.pays()); e != api.OK {
				return e
			}
			r.Trades = append(r.Trades, api.Trade{Maker: f.Maker.ID, Taker: r.ID, Price: f.Maker.Price, Size: f.Size})
		}
		r.Order.Left = left
		return api.OK
	}
}

// trade: a taker takes some of a maker, and pays with what it holds or, where nothing is held for it, with what is free.
func (g Engine) trade(taker api.Order, f match.Fill, free bool) api.Errno {
	buy, sell := taker, f.Maker
	if taker.Side == api.Sell {
		buy, sell = f.Maker, taker
	}
	cost, e := amount.Cost(f.Maker.Price, f.Size)
	if e != api.OK {
		return e
	}
	if e := ledger.Pay(g.o, buy.Account, sell.Account, api.Cash, cost, !free); e != api.OK {
		return e
	}
	if e := ledger.Pay(g.o, sell.Account, buy.Account, api.Goods, f.Size, true); e != api.OK {
		return e
	}
	maker := f.Maker
	if maker.Left -= f.Size; maker.Left == 0 {
		maker.State = api.Filled
	}
	if e := book.Put(g.o, maker); e != api.OK {
		return e
	}
	// No amount of 0 may be released.
	if free || buy.Price == f.Maker.Price {
		return api.OK
	}
	return g.release(api.Order{Account: buy.Account, Side: api.Buy, Price: buy.Price - f.Maker.Price, Left: f.Size})
}

// settled: what is left of it rests, or isn't held for it any more.
func (g Engine) settled(a Ask) step {
	return func(r *Reply) api.Errno {
		switch {
		case r.Order.Left == 0:
			r.Order.State = api.Filled
			return api.OK
		case a.rests():
			r.Order.State = api.Resting
			return api.OK
		}
		r.Order.State = api.Cancelled
		if a.pays() {
			return api.OK
		}
		return g.release(r.Order)
	}
}
