package engine_test

import (
	"fmt"
	"testing"

	"bourse/api"
	"bourse/book"
	"bourse/engine"
	"bourse/ledger"
	"bourse/overlay"
)

// dice: numbers that look like chance, the same each time.
type dice uint64

func (d *dice) next() uint64 {
	*d = *d*6364136223846793005 + 1442695040888963407
	n := uint64(*d)
	return n ^ n>>29
}

func (d *dice) below(n int) int { return int(d.next() >> 20 % uint64(n)) }

// one: is it the one in so many?
func (d *dice) one(n int) bool { return d.below(n) == 0 }

// scales is how large a run's prices, sizes and deposits of Cash are.
type scales struct{ price, size, cash int64 }

// act is an operation, and what the model answers.
type act struct {
	kind  string
	call  call
	model func() engine.Reply
}

// reads: does it change nothing?
func (x act) reads() bool { return x.kind == "depth" || x.kind == "status" || x.kind == "money" }

// act: the next operation of a run.
func (d *dice) act(m *model, by scales) act {
	account, id := uint64(1+d.below(4)), uint64(1+d.below(len(m.orders)+1))
	if d.one(40) {
		account, id = 0, 0
	}
	switch d.below(20) {
	case 0, 1:
		return d.fund(m, by, account)
	case 2, 3:
		if id > 0 && id <= uint64(len(m.orders)) && !d.one(9) {
			account = m.orders[id-1].Account
		}
		return act{"cancel", cancel(account, id), func() engine.Reply { return m.cancel(account, id) }}
	case 4, 5, 6:
		return d.amend(m, by, account, id)
	case 7:
		n := uint64(d.below(4))
		if d.one(20) {
			n = []uint64{most, most + 1 - m.clock, 1 << 63, 1<<64 - 1}[d.below(4)]
		}
		if n == most && m.clock == 0 {
			n++ // a run's time doesn't end so
		}
		return act{"tick", tick(n), func() engine.Reply { return m.tick(n) }}
	case 8:
		side, n := d.below(4), d.below(35)
		return act{"depth", depth(side, n), func() engine.Reply { return m.depth(side, n) }}
	case 9:
		return act{"status", status(id), func() engine.Reply { return m.status(id) }}
	case 10:
		return act{"money", money(account), func() engine.Reply { return m.money(account) }}
	}
	a := d.ask(m, by, account)
	kind := "place"
	if m.wrong(a) != api.ErrArg && m.wrong(a) != api.ErrSide && m.wrong(a) != api.ErrKind {
		kind += fmt.Sprint(a.Type)
	}
	return act{kind, place(a), func() engine.Reply { return m.place(a) }}
}

// fund: a deposit or a withdrawal.
func (d *dice) fund(m *model, by scales, account uint64) act {
	thing, n := 1+d.below(2), int64(d.below(60))
	if n *= by.cash; thing == api.Goods {
		n = n / by.cash * by.size
	}
	if d.one(20) {
		thing = d.below(4)
	}
	if d.one(20) {
		n = []int64{greatest, least, -1}[d.below(3)]
	}
	if d.one(3) {
		return act{"withdraw", withdraw(account, thing, n), func() engine.Reply { return m.move(account, thing, n, -1) }}
	}
	return act{"deposit", deposit(account, thing, n), func() engine.Reply { return m.move(account, thing, n, 1) }}
}

// amend: mostly by whose order it is, and near what it was.
func (d *dice) amend(m *model, by scales, account, id uint64) act {
	price, size := int64(1+d.below(9))*by.price, int64(1+d.below(20))*by.size
	if id > 0 && id <= uint64(len(m.orders)) && !d.one(9) {
		account = m.orders[id-1].Account
		if d.one(2) {
			price = m.orders[id-1].Price
		}
	}
	if d.one(30) {
		price = most + 1
	}
	if d.one(30) {
		size = -size
	}
	return act{"amend", amend(account, id, price, size), func() engine.Reply { return m.amend(account, id, price, size) }}
}

// ask: an order of any type.
func (d *dice) ask(m *model, by scales, account uint64) engine.Ask {
	a := engine.Ask{Account: account, Side: 1 + d.below(2), Type: 1 + d.below(5), Price: int64(1+d.below(9)) * by.price, Size: int64(1+d.below(12)) * by.size}
	if d.one(2) {
		a.Type = api.Limit
	}
	if a.Type == api.Market {
		a.Price = 0
	}
	if d.one(4) && (a.Type == api.Limit || a.Type == api.PostOnly) {
		a.Expiry = m.clock + uint64(1+d.below(6))
	}
	if a.Type == api.IOC && d.one(2) { // one that meets many
		a.Price, a.Size = []int64{9, 1}[a.Side-1]*by.price, 3*a.Size
	}
	switch d.below(100) {
	case 0:
		a.Side = d.below(4)
	case 1:
		a.Type = d.below(8)
	case 2:
		a.Price = most + 1
	case 3:
		a.Size = 0
	case 4:
		a.Expiry = uint64(d.below(10))
	}
	return a
}

// TestModel: P26.1 to P26.5, by dice: each reply, all that stands behind it, and what must hold.
func TestModel(t *testing.T) {
	d := dice(26)
	seen := map[string]int{}
	for run := range 300 {
		by := []scales{{1, 1, 2}, {1, 1, 9}, {1 << 36, 1 << 21, 1 << 57}}[run%3]
		m := &model{totals: map[owned]int64{}}
		s := overlay.New()
		o := overlay.Over(s)
		for range 120 {
			x := d.act(m, by)
			x.call.what = fmt.Sprint("run ", run, ": ", x.call.what)
			wanted := x.model()
			if x.reads() {
				reads(t, o, x.call, wanted)
			} else {
				answers(t, o, x.call, wanted)
			}
			stands(t, x.call.what, o, m.state())
			holds(t, x.call.what, o)
			note(seen, x.kind, wanted, m)
			if t.Failed() {
				return
			}
			if d.one(20) {
				s.Do(o.Changes())
				o = overlay.Over(s)
			}
		}
	}
	enough(t, seen)
}

// holds: P26.5, from what stands alone.
func holds(t *testing.T, what string, o *overlay.Overlay) {
	t.Helper()
	totals, e := ledger.Totals(o)
	want(t, what+": Totals", e, api.OK)
	for thing, name := range map[int]string{api.Cash: "net1", api.Goods: "net2"} {
		net, e := ledger.Number(o, name)
		want(t, what+": all together", uint64(totals[thing].Free)+uint64(totals[thing].Held), net)
		want(t, what+": the net", e, api.OK)
	}
	now, e := ledger.Number(o, "clock")
	want(t, what+": the clock", e, api.OK)
	held := map[owned]int64{}
	for x, e := range book.All(o) {
		want(t, what+": All", e, api.OK)
		if x.State == api.Resting {
			thing, n := needs(x)
			held[owned{x.Account, thing}] += n.Int64()
			want(t, what+": rests in time", x.Expiry == 0 || x.Expiry > now, true)
		}
	}
	for account := range uint64(6) {
		for thing := api.Cash; thing <= api.Goods && account > 0; thing++ {
			b, e := ledger.Balance(o, account, thing)
			want(t, what+": no balance is below 0", e == api.OK && b.Free >= 0 && b.Held >= 0, true)
			want(t, what+": what is held", b.Held, held[owned{account, thing}])
		}
	}
	buy, is, e := book.Best(o, api.Buy)
	want(t, what+": the best Buy", e, api.OK)
	sell, also, e := book.Best(o, api.Sell)
	want(t, what+": the best Sell", e, api.OK)
	want(t, what+": crossed", is && also && buy >= sell, false)
}

// note: what came of an operation.
func note(seen map[string]int, kind string, r engine.Reply, m *model) {
	seen[fmt.Sprint(kind, " ", int(r.Err))]++
	seen[fmt.Sprint(kind, " gone ", min(len(r.Gone), 2))]++
	if r.Err != api.OK || r.ID == 0 {
		return
	}
	seen[fmt.Sprint(kind, " trades ", min(len(r.Trades), 2), ", then ", r.Order.State)]++
	for _, x := range r.Trades {
		maker := m.orders[x.Maker-1]
		if maker.Account == r.Order.Account {
			seen["meets itself"]++
		}
		if maker.State == api.Resting {
			seen["a part of a maker"]++
		}
		if r.Order.Side == api.Buy && x.Price < r.Order.Price {
			seen["a better price"]++
		}
	}
}

// enough: the dice must have made all of these.
func enough(t *testing.T, seen map[string]int) {
	t.Helper()
	wanted := []string{"meets itself", "a part of a maker", "a better price", "tick gone 1", "tick gone 2"}
	for kind, faults := range map[string][]api.Errno{
		"place1":   {api.OK, api.ErrPrice, api.ErrSize, api.ErrExpiry, api.ErrOver, api.ErrFunds},
		"place2":   {api.OK, api.ErrPrice, api.ErrFunds},
		"place3":   {api.OK, api.ErrFunds},
		"place4":   {api.OK, api.ErrFunds, api.ErrKill},
		"place5":   {api.OK, api.ErrFunds, api.ErrCross},
		"place":    {api.ErrArg, api.ErrSide, api.ErrKind},
		"cancel":   {api.OK, api.ErrNone, api.ErrClosed},
		"amend":    {api.OK, api.ErrNone, api.ErrClosed, api.ErrPrice, api.ErrSize, api.ErrOver, api.ErrFunds, api.ErrCross},
		"tick":     {api.OK, api.ErrTime},
		"deposit":  {api.OK, api.ErrArg, api.ErrKind, api.ErrSize, api.ErrOver},
		"withdraw": {api.OK, api.ErrArg, api.ErrKind, api.ErrSize, api.ErrFunds},
		"depth":    {api.OK, api.ErrSide, api.ErrArg},
		"status":   {api.OK, api.ErrNone},
		"money":    {api.OK, api.ErrArg},
	} {
		for _, e := range faults {
			wanted = append(wanted, fmt.Sprint(kind, " ", int(e)))
		}
	}
	for _, kind := range []string{"place1", "place2", "place3", "place4"} {
		wanted = append(wanted, fmt.Sprint(kind, " trades 1, then ", api.Filled), fmt.Sprint(kind, " trades 2, then ", api.Filled))
	}
	for kind, state := range map[string]int{"place1": api.Resting, "place2": api.Cancelled, "place3": api.Cancelled} {
		wanted = append(wanted, fmt.Sprint(kind, " trades 0, then ", state), fmt.Sprint(kind, " trades 1, then ", state), fmt.Sprint(kind, " trades 2, then ", state))
	}
	for _, what := range wanted {
		if seen[what] < 10 {
			t.Errorf("the dice made %q %d times alone", what, seen[what])
		}
	}
}
