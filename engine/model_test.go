package engine_test

import (
	"cmp"
	"math/big"
	"slices"

	"bourse/api"
	"bourse/book"
	"bourse/engine"
)

// model is a market, told otherwise: what accounts have in all; what of it is held is reckoned anew from the orders that rest.
type model struct {
	orders []api.Order // the number 1 first
	totals map[owned]int64
	nets   [3]int64
	clock  uint64
	rank   uint64
}

// needs: what an order holds, without an end.
func needs(x api.Order) (int, *big.Int) {
	if x.Side == api.Sell {
		return api.Goods, big.NewInt(x.Left)
	}
	return api.Cash, new(big.Int).Mul(big.NewInt(x.Price), big.NewInt(x.Left))
}

func (m *model) held(of owned) *big.Int {
	all := new(big.Int)
	for _, x := range m.orders {
		if thing, n := needs(x); x.State == api.Resting && x.Account == of.account && thing == of.thing {
			all.Add(all, n)
		}
	}
	return all
}

func (m *model) balance(of owned) api.Balance {
	held := m.held(of).Int64()
	return api.Balance{Free: m.totals[of] - held, Held: held}
}

// canHold: the error of what an order would hold, beside all that is held.
func (m *model) canHold(x api.Order) api.Errno {
	thing, n := needs(x)
	of := owned{x.Account, thing}
	all := m.held(of)
	if all.Add(all, n); !n.IsInt64() || !all.IsInt64() {
		return api.ErrOver
	}
	if all.Cmp(big.NewInt(m.totals[of])) > 0 {
		return api.ErrFunds
	}
	return api.OK
}

// met: the numbers of those that an order of a side and price meets (any, of 0), the first one first.
func (m *model) met(side int, price int64) []uint64 {
	sign := map[int]int64{api.Buy: 1, api.Sell: -1}[side]
	var l []uint64
	for _, x := range m.orders {
		if x.State == api.Resting && x.Side != side && (price == 0 || sign*x.Price <= sign*price) {
			l = append(l, x.ID)
		}
	}
	slices.SortFunc(l, func(a, b uint64) int {
		x, y := m.orders[a-1], m.orders[b-1]
		return cmp.Or(cmp.Compare(sign*x.Price, sign*y.Price), cmp.Compare(x.Rank, y.Rank), cmp.Compare(a, b))
	})
	return l
}

// wrong: an Ask's error that hangs on it, and on the clock alone.
func (m *model) wrong(a engine.Ask) api.Errno {
	isMarket, stays := a.Type == 2, a.Type == 1 || a.Type == 5
	switch {
	case a.Account == 0:
		return api.ErrArg
	case a.Side < 1 || a.Side > 2:
		return api.ErrSide
	case a.Type < 1 || a.Type > 5:
		return api.ErrKind
	case isMarket && a.Price != 0, !isMarket && (a.Price < 1 || a.Price > most):
		return api.ErrPrice
	case a.Size < 1 || a.Size > most:
		return api.ErrSize
	case a.Expiry > 0 && (!stays || a.Expiry <= m.clock || a.Expiry > most):
		return api.ErrExpiry
	}
	return api.OK
}

func (m *model) place(a engine.Ask) engine.Reply {
	if e := m.wrong(a); e != api.OK {
		return engine.Reply{Err: e}
	}
	x := api.Order{Account: a.Account, Side: a.Side, Price: a.Price, Size: a.Size, Left: a.Size, Expiry: a.Expiry}
	pays := a.Type == 2 && a.Side == 1
	if a.Type == 2 {
		x.Price = []int64{most, 1}[a.Side-1]
	}
	if e := m.canHold(x); e != api.OK && !pays {
		return engine.Reply{Err: e}
	}
	makers := m.met(a.Side, a.Price)
	var there int64
	for _, id := range makers {
		there += m.orders[id-1].Left
	}
	if a.Type == 5 && there > 0 {
		return engine.Reply{Err: api.ErrCross}
	}
	if a.Type == 4 && there < a.Size {
		return engine.Reply{Err: api.ErrKill}
	}
	m.rank++
	x.ID, x.Rank = uint64(len(m.orders)+1), m.rank
	budget := int64(-1)
	if pays {
		budget = m.balance(owned{a.Account, api.Cash}).Free
	}
	trades := m.trade(&x, makers, budget)
	switch {
	case x.Left == 0:
		x.State = api.Filled
	case a.Type == 1 || a.Type == 5:
		x.State = api.Resting
	default:
		x.State = api.Cancelled
	}
	m.orders = append(m.orders, x)
	return engine.Reply{ID: x.ID, Order: x, Trades: trades}
}

// trade: with makers, up to a budget (below 0: without an end).
func (m *model) trade(x *api.Order, makers []uint64, budget int64) []api.Trade {
	var l []api.Trade
	for _, id := range makers {
		maker := &m.orders[id-1]
		all := min(x.Left, maker.Left)
		n := all
		if budget >= 0 {
			n = min(n, budget/maker.Price)
			budget -= n * maker.Price
		}
		if n == 0 {
			break
		}
		l = append(l, api.Trade{Maker: id, Taker: x.ID, Price: maker.Price, Size: n})
		buyer, seller := x.Account, maker.Account
		if x.Side == api.Sell {
			buyer, seller = seller, buyer
		}
		m.totals[owned{buyer, api.Cash}] -= n * maker.Price
		m.totals[owned{seller, api.Cash}] += n * maker.Price
		m.totals[owned{seller, api.Goods}] -= n
		m.totals[owned{buyer, api.Goods}] += n
		x.Left -= n
		if maker.Left -= n; maker.Left == 0 {
			maker.State = api.Filled
		}
		if n < all {
			break
		}
	}
	return l
}

// closed: the error of an order that may not be cancelled, or amended.
func (m *model) closed(account, id uint64) api.Errno {
	switch {
	case id < 1 || id > uint64(len(m.orders)) || m.orders[id-1].Account != account:
		return api.ErrNone
	case m.orders[id-1].State != api.Resting:
		return api.ErrClosed
	}
	return api.OK
}

func (m *model) cancel(account, id uint64) engine.Reply {
	if e := m.closed(account, id); e != api.OK {
		return engine.Reply{Err: e}
	}
	m.orders[id-1].State = api.Cancelled
	return engine.Reply{Order: m.orders[id-1]}
}

func (m *model) amend(account, id uint64, price, size int64) engine.Reply {
	if e := m.closed(account, id); e != api.OK {
		return engine.Reply{Err: e}
	}
	x := m.orders[id-1]
	made := x.Size - x.Left
	switch {
	case price < 1 || price > most:
		return engine.Reply{Err: api.ErrPrice}
	case size < 1 || size > most || size <= made:
		return engine.Reply{Err: api.ErrSize}
	}
	y := x
	y.Price, y.Size, y.Left = price, size, size-made
	m.orders[id-1].State = api.Cancelled // so that it holds nothing meanwhile
	e := m.canHold(y)
	m.orders[id-1] = x
	switch {
	case e != api.OK:
		return engine.Reply{Err: e}
	case price != x.Price && len(m.met(x.Side, price)) > 0:
		return engine.Reply{Err: api.ErrCross}
	}
	if price != x.Price || y.Left > x.Left {
		m.rank++
		y.Rank = m.rank
	}
	m.orders[id-1] = y
	return engine.Reply{Order: y}
}

func (m *model) tick(n uint64) engine.Reply {
	if n > most || m.clock+n > most {
		return engine.Reply{Err: api.ErrTime}
	}
	m.clock += n
	var due []api.Order
	for i := range m.orders {
		if x := &m.orders[i]; x.State == api.Resting && x.Expiry > 0 && x.Expiry <= m.clock {
			x.State = api.Expired
			due = append(due, *x)
		}
	}
	slices.SortStableFunc(due, func(a, b api.Order) int { return cmp.Compare(a.Expiry, b.Expiry) })
	r := engine.Reply{N: m.clock}
	for _, x := range due {
		r.Gone = append(r.Gone, x.ID)
	}
	return r
}

// move: a deposit, or, of a sign -1, a withdrawal.
func (m *model) move(account uint64, thing int, n, sign int64) engine.Reply {
	of := owned{account, thing}
	switch {
	case account == 0:
		return engine.Reply{Err: api.ErrArg}
	case thing != 1 && thing != 2:
		return engine.Reply{Err: api.ErrKind}
	case n < 1:
		return engine.Reply{Err: api.ErrSize}
	case sign > 0 && n > greatest-m.nets[thing]: // nobody has more than all
		return engine.Reply{Err: api.ErrOver}
	case sign < 0 && n > m.balance(of).Free:
		return engine.Reply{Err: api.ErrFunds}
	}
	m.totals[of] += sign * n
	m.nets[thing] += sign * n
	return engine.Reply{}
}

func (m *model) depth(side, n int) engine.Reply {
	switch {
	case side < 1 || side > 2:
		return engine.Reply{Err: api.ErrSide}
	case n < 1 || n > 32:
		return engine.Reply{Err: api.ErrArg}
	}
	var l []book.Level
	for _, id := range m.met(3-side, 0) {
		x := m.orders[id-1]
		if i := len(l); i == 0 || l[i-1].Price != x.Price {
			l = append(l, book.Level{Price: x.Price})
		}
		l[len(l)-1].Size += x.Left
	}
	return engine.Reply{Levels: l[:min(n, len(l))]}
}

func (m *model) status(id uint64) engine.Reply {
	if id < 1 || id > uint64(len(m.orders)) {
		return engine.Reply{Err: api.ErrNone}
	}
	return engine.Reply{Order: m.orders[id-1]}
}

func (m *model) money(account uint64) engine.Reply {
	if account == 0 {
		return engine.Reply{Err: api.ErrArg}
	}
	return engine.Reply{Money: [2]api.Balance{m.balance(owned{account, 1}), m.balance(owned{account, 2})}}
}

// state: all that the model has.
func (m *model) state() state {
	s := state{orders: m.orders, balances: map[owned]api.Balance{}, numbers: map[string]uint64{
		"id": uint64(len(m.orders)), "rank": m.rank, "clock": m.clock, "net1": uint64(m.nets[1]), "net2": uint64(m.nets[2]),
	}}
	for of := range m.totals {
		s.balances[of] = m.balance(of)
	}
	return s
}
