package command_test

import (
	"fmt"
	"slices"
	"testing"

	"bourse/api"
	"bourse/command"
	"bourse/engine"
	"bourse/overlay"
)

// dice: numbers that look like chance, the same each time.
type dice uint64

func (d *dice) below(n int) int {
	*d = *d*6364136223846793005 + 1442695040888963407
	x := uint64(*d)
	return int((x ^ x>>29) >> 20 % uint64(n))
}

// call: the engine's, told once more.
func call(g engine.Engine, o command.Op) engine.Reply {
	switch o.Kind {
	case 1:
		return g.Place(engine.Ask{Account: o.Account, Side: o.Side, Type: o.Type, Price: o.Price, Size: o.Size, Expiry: o.Expiry})
	case 2:
		return g.Cancel(o.Account, o.ID)
	case 3:
		return g.Amend(o.Account, o.ID, o.Price, o.Size)
	case 4:
		return g.Tick(o.N)
	case 5:
		return g.Deposit(o.Account, o.Thing, o.Size)
	case 6:
		return g.Withdraw(o.Account, o.Thing, o.Size)
	case 7:
		return g.Depth(o.Side, o.Most)
	case 8:
		return g.Status(o.ID)
	default:
		return g.Money(o.Account)
	}
}

// does: an operation over pairs is what the engine's call over the same ones is.
func does(t *testing.T, s *overlay.Shelf, o command.Op) engine.Reply {
	t.Helper()
	mine, its := overlay.Over(s), overlay.Over(s)
	got, wanted := command.Do(engine.On(mine), o), call(engine.On(its), o)
	want(t, fmt.Sprintf("%+v: got %+v, wanted %+v: the same", o, got, wanted), engine.Same(got, wanted), true)
	list(t, fmt.Sprintf("%+v: changes", o), mine.Changes(), its.Changes()...)
	want(t, fmt.Sprintf("%+v: only reads", o), !command.Reads(o.Kind) || len(mine.Changes()) == 0, true)
	s.Do(mine.Changes())
	return got
}

// TestDo: P27.2, the engine's call of each kind, with what it tells.
func TestDo(t *testing.T) {
	s := overlay.New()
	want(t, "deposit", does(t, s, command.Op{Kind: command.Deposit, Account: 1, Thing: api.Cash, Size: 50}).Err, api.OK)
	want(t, "goods", does(t, s, command.Op{Kind: command.Deposit, Account: 2, Thing: api.Goods, Size: 9}).Err, api.OK)
	want(t, "withdraw", does(t, s, command.Op{Kind: command.Withdraw, Account: 2, Thing: api.Goods, Size: 2}).Err, api.OK)
	want(t, "place", does(t, s, command.Op{Kind: command.Place, Account: 2, Side: api.Sell, Type: api.Limit, Price: 3, Size: 4, Expiry: 7}).ID, 1)
	want(t, "amend", does(t, s, command.Op{Kind: command.Amend, Account: 2, ID: 1, Price: 5, Size: 6}).Order.Price, 5)
	want(t, "depth", len(does(t, s, command.Op{Kind: command.Depth, Side: api.Sell, Most: 3}).Levels), 1)
	want(t, "status", does(t, s, command.Op{Kind: command.Status, ID: 1}).Order.Expiry, 7)
	want(t, "a buy", len(does(t, s, command.Op{Kind: command.Place, Account: 1, Side: api.Buy, Type: api.IOC, Price: 5, Size: 1}).Trades), 1)
	want(t, "cancel", does(t, s, command.Op{Kind: command.Cancel, Account: 2, ID: 1}).Order.State, api.Cancelled)
	want(t, "tick", does(t, s, command.Op{Kind: command.Tick, N: 5}).N, 5)
	want(t, "money", does(t, s, command.Op{Kind: command.Money, Account: 1}).Money, [2]api.Balance{{Free: 45}, {Free: 1}})
}

// TestDoRefused: P27.2, Bytes' error, alone, and nothing is done.
func TestDoRefused(t *testing.T) {
	s := overlay.New()
	does(t, s, command.Op{Kind: command.Deposit, Account: 1, Thing: api.Cash, Size: 50})
	does(t, s, command.Op{Kind: command.Place, Account: 1, Side: api.Buy, Type: api.Limit, Price: 3, Size: 4})
	before := slices.Collect(s.Range("", ""))
	for o, e := range map[command.Op]api.Errno{
		{Kind: 0}: api.ErrKind,
		{Kind: 10, Account: 1, Thing: 1, Size: 5}:                                                      api.ErrKind,
		{Kind: -1, Side: -1}:                                                                           api.ErrKind,
		{Kind: command.Tick, N: 1, ID: 1}:                                                              api.ErrForm,
		{Kind: command.Cancel, Account: 1, ID: 1, Side: 1}:                                             api.ErrForm,
		{Kind: command.Amend, Account: 1, ID: 1, Price: 2, Size: 4, N: 1}:                              api.ErrForm,
		{Kind: command.Deposit, Account: 1, Thing: 1, Size: 1, Price: -1}:                              api.ErrForm,
		{Kind: command.Withdraw, Account: 1, Thing: 1, Size: 1, Most: 1}:                               api.ErrForm,
		{Kind: command.Deposit, Account: 1, Thing: 1 + 1<<32, Size: 1}:                                 api.ErrForm,
		{Kind: command.Place, Account: 1, Side: -1, Type: 1, Price: 1, Size: 1}:                        api.ErrForm,
		{Kind: command.Place, Account: 1, Side: api.Buy, Type: api.Limit, Price: 1, Size: 1, Thing: 1}: api.ErrForm,
		{Kind: command.Place, Side: api.Buy, Type: 1 << 31, Price: 1, Size: 1}:                         api.ErrForm,
		{Kind: command.Depth, Side: api.Buy, Most: 1 << 31}:                                            api.ErrForm,
		{Kind: command.Depth, Side: api.Buy, Most: -1}:                                                 api.ErrForm,
		{Kind: command.Status, ID: 1, Account: 1}:                                                      api.ErrForm,
		{Kind: command.Money, Account: 1, Expiry: 1}:                                                   api.ErrForm,
		{Kind: command.Money, Account: 0}:                                                              api.ErrArg,
		{Kind: command.Depth, Side: 3, Most: 1}:                                                        api.ErrSide,
		{Kind: command.Place, Account: 1, Side: 1<<31 - 1, Type: 1, Price: 1, Size: 1}:                 api.ErrSide,
		{Kind: command.Place, Account: 1, Side: api.Buy, Type: 1<<31 - 1, Price: 1, Size: 1}:           api.ErrKind,
		{Kind: command.Deposit, Account: 1, Thing: 1<<31 - 1, Size: 1}:                                 api.ErrKind,
		{Kind: command.Depth, Side: api.Buy, Most: 1<<31 - 1}:                                          api.ErrArg,
	} {
		over := overlay.Over(s)
		got := command.Do(engine.On(over), o)
		want(t, fmt.Sprintf("%+v: got %+v: the error alone", o, got), engine.Same(got, engine.Reply{Err: e}), true)
		want(t, fmt.Sprintf("%+v: nothing is done", o), over.Mark() == 0 && len(over.Changes()) == 0, true)
	}
	list(t, "the pairs", slices.Collect(s.Range("", "")), before...)
}

// TestDoNothing: P1, of an engine over nothing no call panics.
func TestDoNothing(t *testing.T) {
	for kind := range tells() {
		o, _ := told(kind, slices.Repeat([]uint64{1}, 6)...)
		got := command.Do(engine.On(nil), o)
		want(t, fmt.Sprintf("%+v", o), engine.Same(got, call(engine.On(nil), o)), true)
		does(t, overlay.New(), o)
	}
}

// operation: the next one of a run.
func (d *dice) operation(orders int) command.Op {
	account, id := uint64(1+d.below(3)), uint64(1+d.below(orders+1))
	price, size := int64(1+d.below(6)), int64(1+d.below(9))
	switch d.below(13) {
	case 0, 12:
		return command.Op{Kind: command.Cancel, Account: account, ID: id}
	case 1, 2:
		return command.Op{Kind: command.Amend, Account: account, ID: id, Price: price, Size: size}
	case 3:
		return command.Op{Kind: command.Tick, N: uint64(d.below(3))}
	case 4:
		return command.Op{Kind: command.Deposit, Account: account, Thing: 1 + d.below(2), Size: 10 * size}
	case 5:
		return command.Op{Kind: command.Withdraw, Account: account, Thing: 1 + d.below(2), Size: size}
	case 6:
		return command.Op{Kind: command.Depth, Side: 1 + d.below(2), Most: 1 + d.below(5)}
	case 7:
		return command.Op{Kind: command.Status, ID: id}
	case 8:
		return command.Op{Kind: command.Money, Account: account}
	}
	o := command.Op{Kind: command.Place, Account: account, Side: 1 + d.below(2), Type: 1 + d.below(5), Price: price, Size: size}
	if o.Type == api.Market {
		o.Price = 0
	}
	if o.Type == api.Limit {
		o.Expiry = uint64(d.below(2) * d.below(30))
	}
	return o
}

// TestDoByDice: P27.2, P27.3, runs of operations are the engine's calls, and so are those that were written and read.
func TestDoByDice(t *testing.T) {
	d := dice(9)
	seen := map[string]int{}
	for range 100 {
		s, orders := overlay.New(), 0
		for range 80 {
			o := d.operation(orders)
			written, e := command.Bytes(o)
			want(t, fmt.Sprintf("%+v: Bytes", o), e, api.OK)
			read, e := command.Parse(written)
			want(t, fmt.Sprintf("%+v: Parse", o), read == o && e == api.OK, true)
			r := does(t, s, read)
			orders += int(min(r.ID, 1))
			seen[fmt.Sprint(o.Kind, r.Err == api.OK)]++
			if t.Failed() {
				return
			}
		}
	}
	for kind := range tells() {
		want(t, fmt.Sprint("the dice did the kind ", kind), seen[fmt.Sprint(kind, true)] > 20, true)
	}
	for _, kind := range []int{1, 2, 3, 6, 8} {
		want(t, fmt.Sprint("the dice were refused the kind ", kind), seen[fmt.Sprint(kind, false)] > 20, true)
	}
}
