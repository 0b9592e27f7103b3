package ledger_test

import (
	"fmt"
	"maps"
	"math/big"
	"testing"

	"bourse/api"
	"bourse/ledger"
	"bourse/overlay"
)

// dice: numbers that look like chance, the same each time.
type dice uint64

func (d *dice) next() uint64 {
	*d = *d*6364136223846793005 + 1442695040888963407
	n := uint64(*d)
	return n ^ n>>29
}

func (d *dice) below(n int) int { return int(d.next() >> 20 % uint64(n)) }

// amount: of any length, now and then one at the ends, or one that can't be.
func (d *dice) amount() int64 {
	if d.below(10) == 0 {
		return []int64{0, -1, least, greatest - 4, greatest, greatest}[d.below(6)]
	}
	return int64(d.next() >> 1 >> d.below(63))
}

// owned is whose, and what.
type owned struct {
	account uint64
	thing   int
}

// purse is a balance, reckoned without an end.
type purse struct{ free, held big.Int }

// model is what accounts have, and the nets.
type model struct {
	purses map[owned]*purse
	nets   [3]big.Int
}

func (m *model) of(account uint64, thing int) *purse {
	if m.purses[owned{account, thing}] == nil {
		m.purses[owned{account, thing}] = &purse{}
	}
	return m.purses[owned{account, thing}]
}

// room: does a number with so much more stay in 63 bits?
func room(n *big.Int, more int64) bool { return new(big.Int).Add(n, big.NewInt(more)).IsInt64() }

// enough: is a number at least so much?
func enough(n *big.Int, less int64) bool { return n.Cmp(big.NewInt(less)) >= 0 }

func (p *purse) together() *big.Int { return new(big.Int).Add(&p.free, &p.held) }

// move: so much from a number to another one (nil: from nowhere, to nowhere).
func move(from, to *big.Int, n int64) api.Errno {
	if from != nil {
		from.Sub(from, big.NewInt(n))
	}
	if to != nil {
		to.Add(to, big.NewInt(n))
	}
	return api.OK
}

// does: what a call of a number from 0 to 5 does, and answers.
func (m *model) does(kind int, account, to uint64, thing int, n int64) api.Errno {
	pays := kind > 3
	switch {
	case account == 0 || pays && to == 0:
		return api.ErrArg
	case thing != 1 && thing != 2:
		return api.ErrKind
	case n < 1:
		return api.ErrSize
	}
	p, net := m.of(account, thing), &m.nets[thing]
	switch kind {
	case 0:
		if !room(p.together(), n) || !room(net, n) {
			return api.ErrOver
		}
		move(nil, net, n)
		return move(nil, &p.free, n)
	case 1:
		if !enough(&p.free, n) {
			return api.ErrFunds
		}
		move(net, nil, n)
		return move(&p.free, nil, n)
	case 2:
		return within(&p.free, &p.held, n)
	case 3:
		return within(&p.held, &p.free, n)
	}
	from := &p.free
	if kind == 5 {
		from = &p.held
	}
	other := m.of(to, thing)
	switch {
	case !enough(from, n):
		return api.ErrFunds
	case account != to && !room(other.together(), n):
		return api.ErrOver
	}
	return move(from, &other.free, n)
}

// within: one purse's.
func within(from, to *big.Int, n int64) api.Errno {
	switch {
	case !room(to, n):
		return api.ErrOver
	case !enough(from, n):
		return api.ErrFunds
	}
	return move(from, to, n)
}

// calls: by the same numbers.
func calls(o *overlay.Overlay, kind int, account, to uint64, thing int, n int64) api.Errno {
	switch kind {
	case 0:
		return ledger.Deposit(o, account, thing, n)
	case 1:
		return ledger.Withdraw(o, account, thing, n)
	case 2:
		return ledger.Hold(o, account, thing, n)
	case 3:
		return ledger.Release(o, account, thing, n)
	}
	return ledger.Pay(o, account, to, thing, n, kind == 5)
}

// TestModel: P23.1 to P23.3, by dice: each call's answer, all balances, both nets, the totals.
func TestModel(t *testing.T) {
	d := dice(23)
	seen := map[string]int{}
	for run := range 300 {
		s := overlay.New()
		o := overlay.Over(s)
		m := &model{purses: map[owned]*purse{}}
		for range 100 {
			kind, account, to, thing, n := d.below(6), uint64(d.below(40)%4), uint64(d.below(40)%4), 1+d.below(2), d.amount()
			if d.below(20) == 0 {
				thing = d.below(4)
			}
			// Small amounts meet balances better than those of any length.
			if d.below(3) > 0 && n > 0 && n < greatest-9 {
				n = n%9 + 1
			}
			what := fmt.Sprint("run ", run, ": call ", kind, account, to, thing, n)
			mark := o.Mark()
			wanted := m.does(kind, account, to, thing, n)
			want(t, what, calls(o, kind, account, to, thing, n), wanted)
			if wanted != api.OK {
				want(t, what+": Mark", o.Mark(), mark)
			}
			seen[fmt.Sprint(kind, wanted)]++
			if d.below(20) == 0 {
				s.Do(o.Changes())
				o = overlay.Over(s)
			}
			holds(t, what, o, m)
			if t.Failed() {
				return
			}
		}
	}
	for kind, faults := range [][]api.Errno{
		{api.OK, api.ErrArg, api.ErrKind, api.ErrSize, api.ErrOver}, {api.OK, api.ErrArg, api.ErrKind, api.ErrSize, api.ErrFunds},
		{api.OK, api.ErrOver, api.ErrFunds}, {api.OK, api.ErrOver, api.ErrFunds}, {api.OK, api.ErrFunds}, {api.OK, api.ErrFunds}, // nobody is paid too much, as all together have no more than a net
	} {
		for _, e := range faults {
			if seen[fmt.Sprint(kind, e)] < 20 {
				t.Errorf("the dice made %v of the call %d %d times alone", e, kind, seen[fmt.Sprint(kind, e)])
			}
		}
	}
}

// holds: all is as the model has it, and comes to the nets.
func holds(t *testing.T, what string, r overlay.Reader, m *model) {
	t.Helper()
	pairs := 0
	sums := map[int]*purse{}
	for of, p := range m.purses {
		wanted := api.Balance{Free: p.free.Int64(), Held: p.held.Int64()}
		b, e := ledger.Balance(r, of.account, of.thing)
		want(t, fmt.Sprint(what, ": of ", of), b, wanted)
		want(t, fmt.Sprint(what, ": of ", of), e, api.OK)
		if wanted == (api.Balance{}) {
			continue
		}
		pairs++
		if sums[of.thing] == nil {
			sums[of.thing] = &purse{}
		}
		sums[of.thing].free.Add(&sums[of.thing].free, &p.free)
		sums[of.thing].held.Add(&sums[of.thing].held, &p.held)
	}
	wanted := map[int]api.Balance{}
	for thing := 1; thing <= 2; thing++ {
		net, e := ledger.Number(r, fmt.Sprint("net", thing))
		want(t, what+": net", net, m.nets[thing].Uint64())
		want(t, what+": net", e, api.OK)
		if net != 0 {
			pairs++
		}
		together := new(big.Int)
		if p := sums[thing]; p != nil {
			together = p.together()
			wanted[thing] = api.Balance{Free: p.free.Int64(), Held: p.held.Int64()}
		}
		want(t, what+": all together", together.Cmp(&m.nets[thing]), 0)
	}
	got, e := ledger.Totals(r)
	want(t, what+": Totals", maps.Equal(got, wanted) && e == api.OK, true)
	want(t, what+": how many pairs", len(all(r)), pairs)
}
