package check_test

import (
	"fmt"
	"math/big"
	"slices"
	"testing"

	"bourse/api"
	"bourse/check"
	"bourse/command"
	"bourse/disk"
	"bourse/dump"
	"bourse/engine"
	"bourse/overlay"
	"bourse/session"
	"bourse/store"
)

// dice: numbers that look like chance, the same each time.
type dice uint64

func (d *dice) next() uint64 {
	*d = *d*6364136223846793005 + 1442695040888963407
	n := uint64(*d)
	return n ^ n>>29
}

func (d *dice) below(n int) int { return int(d.next() >> 20 % uint64(n)) }

// one: is it the one in so many?
func (d *dice) one(n int) bool { return d.below(n) == 0 }

// scale is how large a run's prices, sizes and balances are.
type scale struct{ price, size, money int64 }

// dump: one in order, whose parts may fit each other, or not.
func (d *dice) dump(by scale) dump.Dump {
	x := dump.Dump{Clock: uint64(d.below(5)), IDs: uint64(8 + d.below(4)), Ranks: uint64(8 + d.below(4))}
	for id := range uint64(d.below(12)) {
		o := rests(id+1, uint64(1+d.below(4)), 1+d.below(2), by.price*int64(1+d.below(6)), by.size*int64(1+d.below(4)))
		if o.Side == api.Sell && !d.one(5) {
			o.Price += 5 * by.price
		}
		if o.Rank = uint64(1 + d.below(9)); d.one(3) {
			o.Expiry = uint64(d.below(9))
		}
		if o.State = 1 + d.below(5)%4; o.State == api.Filled {
			o.Left = 0
		}
		x.Orders = append(x.Orders, o)
	}
	sums := [3]big.Int{}
	for id := range uint64(5) {
		for thing := 1; thing <= 2; thing++ {
			n, _ := big.NewInt(0), 0
			for _, o := range x.Orders {
				n.Add(n, part(o, id, thing))
			}
			if n.Sign() == 0 && d.one(2) || d.one(20) {
				continue
			}
			held := int64(1)
			if n.IsInt64() && !d.one(9) {
				held = n.Int64()
			}
			free := min(by.money*int64(d.below(4)), greatest-held)
			x.Accounts = append(x.Accounts, has(id, thing, free, held))
			sums[thing].Add(&sums[thing], big.NewInt(held)).Add(&sums[thing], big.NewInt(free))
		}
	}
	for i := range x.Net {
		// Modulo 2^64, where it is too much.
		x.Net[i] = new(big.Int).And(&sums[i+1], new(big.Int).SetUint64(end)).Uint64() + uint64(d.below(8)/7)
	}
	return x
}

// part: what an order that rests needs of a thing, for an account.
func part(o api.Order, account uint64, thing int) *big.Int {
	if o.State != api.Resting || o.Account != account || o.Side != thing {
		return new(big.Int)
	}
	n := big.NewInt(o.Left)
	if o.Side == api.Buy {
		n.Mul(n, big.NewInt(o.Price))
	}
	return n
}

// model: what is found wrong with a dump, reckoned without an end.
func model(d dump.Dump) []check.Finding {
	return slices.Concat(modelNets(d), modelHoldings(d), modelOrders(d))
}

func modelNets(d dump.Dump) []check.Finding {
	var l []check.Finding
	for thing := 1; thing <= 2; thing++ {
		n := new(big.Int)
		for _, a := range d.Accounts {
			if a.Thing == thing {
				n.Add(n, big.NewInt(a.Money.Free)).Add(n, big.NewInt(a.Money.Held))
			}
		}
		if !n.IsInt64() || n.Uint64() != d.Net[thing-1] {
			l = append(l, net(thing))
		}
	}
	return l
}

func modelHoldings(d dump.Dump) []check.Finding {
	var l []check.Finding
	all := func(account uint64, thing int) *big.Int {
		n := new(big.Int)
		for _, o := range d.Orders {
			n.Add(n, part(o, account, thing))
		}
		return n
	}
	// One order that needs too much makes all of its account wrong.
	broken := func(account uint64) bool {
		return slices.ContainsFunc(d.Orders, func(o api.Order) bool { return !part(o, account, 1).IsInt64() })
	}
	told := func(account uint64, thing int) bool {
		return slices.ContainsFunc(d.Accounts, func(a dump.Account) bool { return a.ID == account && a.Thing == thing })
	}
	for _, a := range d.Accounts {
		if broken(a.ID) || all(a.ID, a.Thing).Cmp(big.NewInt(a.Money.Held)) != 0 {
			l = append(l, needs(a.ID, a.Thing))
		}
	}
	for _, o := range d.Orders {
		x := needs(o.Account, o.Side)
		if o.State == api.Resting && !told(o.Account, o.Side) && !slices.Contains(l, x) {
			l = append(l, x)
		}
	}
	return l
}

func modelOrders(d dump.Dump) []check.Finding {
	var l, behind []check.Finding
	var buys, sells []api.Order
	for _, o := range d.Orders {
		if o.State == api.Resting && o.Expiry > 0 && o.Expiry <= d.Clock {
			l = append(l, late(o.ID))
		}
		if o.ID > d.IDs || o.Rank > d.Ranks {
			behind = append(behind, unnumbered(o.ID))
		}
		switch {
		case o.State != api.Resting:
		case o.Side == api.Buy:
			buys = append(buys, o)
		default:
			sells = append(sells, o)
		}
	}
	for _, b := range buys {
		first := !slices.ContainsFunc(buys, func(o api.Order) bool {
			return o.Price > b.Price || o.Price == b.Price && o.Rank < b.Rank || o.Price == b.Price && o.Rank == b.Rank && o.ID < b.ID
		})
		if first && slices.ContainsFunc(sells, func(o api.Order) bool { return o.Price <= b.Price }) {
			l = append(l, crossed(b.ID))
		}
	}
	return append(l, behind...)
}

// TestModel: P30.1, P30.2, by dice, against a model.
func TestModel(t *testing.T) {
	c := dice(301)
	seen := map[int]int{}
	clean := 0
	for run := range 25000 {
		by := []scale{{1, 1, 5}, {1, 1, 1 << 61}, {1 << 36, 1 << 24, 1 << 60}, {1 << 36, 1 << 22, 1 << 61}}[run%4]
		d := c.dump(by)
		wanted := model(d)
		finds(t, fmt.Sprintf("run %d: %+v", run, d), d, wanted...)
		for _, f := range wanted {
			seen[f.Kind]++
		}
		if len(wanted) == 0 && len(d.Orders) > 2 {
			clean++
		}
		for account := range uint64(5) {
			for thing := 1; thing <= 2; thing++ {
				needsAs(t, d, account, thing)
			}
		}
		if t.Failed() {
			return
		}
	}
	for kind := 1; kind <= 5; kind++ {
		want(t, fmt.Sprint("the dice made the kind ", kind), seen[kind] > 1000, true)
	}
	want(t, "the dice made some with which nothing is wrong", clean > 200, true)
}

// needsAs: Needs' answer, reckoned without an end.
func needsAs(t *testing.T, d dump.Dump, account uint64, thing int) {
	t.Helper()
	all, fault := new(big.Int), api.OK
	for _, o := range d.Orders {
		all.Add(all, part(o, account, thing))
		if !part(o, account, api.Cash).IsInt64() {
			fault = api.ErrOver
		}
	}
	if !all.IsInt64() || fault != api.OK {
		need(t, fmt.Sprintf("Needs %d %d of %+v", account, thing, d), d, account, thing, 0, api.ErrOver)
		return
	}
	need(t, fmt.Sprintf("Needs %d %d of %+v", account, thing, d), d, account, thing, all.Int64(), api.OK)
}

// operation: one of any kind, now and then a wrong one.
func (d *dice) operation(by scale, orders uint64) command.Op {
	account, id := uint64(1+d.below(3)), 1+uint64(d.below(int(orders)+1))
	price, size := by.price*int64(1+d.below(6)), by.size*int64(1+d.below(9))
	switch d.below(14) {
	case 0, 1:
		return command.Op{Kind: command.Deposit, Account: account, Thing: api.Goods, Size: 40 * size}
	case 2, 3:
		return command.Op{Kind: command.Deposit, Account: account, Thing: api.Cash, Size: by.money * int64(1+d.below(9))}
	case 4:
		return command.Op{Kind: command.Withdraw, Account: account, Thing: 1 + d.below(2), Size: size}
	case 5:
		return command.Op{Kind: command.Cancel, Account: account, ID: id}
	case 6, 7:
		return command.Op{Kind: command.Amend, Account: account, ID: id, Price: price, Size: size}
	case 8:
		return command.Op{Kind: command.Tick, N: uint64(d.below(3))}
	}
	o := command.Op{Kind: command.Place, Account: account, Side: 1 + d.below(2), Type: 1 + d.below(5), Price: price, Size: size}
	if o.Type == api.Market {
		o.Price = 0
	}
	if o.Type == api.Limit {
		o.Expiry = uint64(d.below(2) * d.below(20))
	}
	return o
}

// TestEngine: P30.3, whatever an engine does, up to the ends of numbers; but as soon as one thing is harmed, that is found.
func TestEngine(t *testing.T) {
	c := dice(303)
	kinds := map[int]int{}
	for run := range 150 {
		by := []scale{{1, 1, 100}, {1 << 36, 1 << 21, 1 << 57}, {1 << 37, 1 << 35, greatest / 9}}[run%3]
		o := overlay.Over(nil)
		g := engine.On(o)
		for i := range 100 {
			op := c.operation(by, uint64(i))
			r := command.Do(g, op)
			what := fmt.Sprintf("run %d, operation %d: %+v, %+v", run, i, op, r)
			l, e := check.Of(o)
			want(t, what+": error", e, api.OK)
			want(t, what+": findings", len(l), 0)
			if t.Failed() {
				t.Fatalf("%+v", l)
			}
		}
		d, e := dump.Of(o)
		want(t, "Of", e, api.OK)
		for kind, harmed := range harms(d) {
			l, e := check.Of(overlay.New(pairs(harmed)...))
			want(t, "error", e, api.OK)
			kinds[kind]++
			if !slices.ContainsFunc(l, func(f check.Finding) bool { return f.Kind == kind }) {
				t.Errorf("run %d: the kind %d isn't found: %+v", run, kind, l)
			}
		}
	}
	for kind := 1; kind <= 5; kind++ {
		want(t, fmt.Sprint("harms of the kind ", kind), kinds[kind] > 30, true)
	}
}

// harms: a dump with one thing that isn't right, by the kind that must be found.
func harms(d dump.Dump) map[int]dump.Dump {
	copied := func() dump.Dump {
		x := d
		x.Accounts, x.Orders = slices.Clone(d.Accounts), slices.Clone(d.Orders)
		return x
	}
	all := map[int]dump.Dump{}
	x := copied()
	x.Net[1]++
	all[1] = x
	i := slices.IndexFunc(d.Orders, func(o api.Order) bool { return o.State == api.Resting })
	if i < 0 {
		return all
	}
	x = copied()
	x.Orders[i].State = api.Cancelled
	all[2] = x
	x = copied()
	x.Orders[i].Expiry, x.Clock = 1, max(1, d.Clock)
	all[3] = x
	x = copied()
	id := d.IDs + 1
	x.IDs, x.Ranks = id+1, d.Ranks+2
	x.Orders = append(x.Orders, rests(id, 9, api.Buy, 7, 1), rests(id+1, 9, api.Sell, 7, 1))
	all[4] = x
	x = copied()
	x.IDs = d.Orders[len(d.Orders)-1].ID - 1
	all[5] = x
	return all
}

// TestSession: P30.2, P30.3, of a market in a store, through flushes, compactions, faults and crashes.
func TestSession(t *testing.T) {
	c := dice(328)
	by := scale{1, 1, 100}
	for run := range 20 {
		d, _ := disk.New(api.MaxDisk)
		m, e := session.Open(d, store.Options{Memo: 300 * (run % 4), Table: 200})
		want(t, "Open", e, api.OK)
		for i := range 80 {
			m.Do(c.operation(by, uint64(i)))
			switch c.below(12) {
			case 0:
				m.Store().Flush()
			case 1:
				m.Store().Compact(c.below(3), c.below(3))
			case 2:
				d.Fuse(c.below(12))
			case 3:
				if c.one(3) {
					d.Fault(c.below(9))
				}
			}
			if m.Shut() {
				d.Crash([]api.Fate{{Keep: c.below(50)}, {Keep: c.below(50)}})
				m, e = session.Open(d, store.Options{Memo: 300 * (run % 4), Table: 200})
				want(t, "Open anew", e, api.OK)
			}
			l, e := check.Of(m.View())
			what := fmt.Sprint("run ", run, ", operation ", i)
			want(t, what, len(l) == 0 && e == api.OK && check.Files(m.Store()), true)
			if t.Failed() {
				t.Fatalf("%+v", l)
			}
		}
	}
}
