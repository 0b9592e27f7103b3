package dump_test

import (
	"fmt"
	"testing"

	"bourse/api"
	"bourse/command"
	"bourse/dump"
	"bourse/engine"
	"bourse/overlay"
)

// TestLaidIsTold: P29.4, by dice: what is laid over nothing is told as it was, also of what was read of its bytes.
func TestLaidIsTold(t *testing.T) {
	c := dice(294)
	for range 5000 {
		d := c.dump()
		again, e := dump.Parse(d.Bytes())
		want(t, "Parse", e, api.OK)
		o := overlay.Over(nil)
		want(t, "Lay", again.Lay(o), api.OK)
		listed(t, "laid", all(o), pairs(d))
		got, e := dump.Of(o)
		want(t, "Of", e, api.OK)
		alike(t, "told", got, d)
		want(t, "Same", dump.Same(got, d), true)
		if t.Failed() {
			return
		}
	}
}

// operation: one of any kind that changes something.
func (d *dice) operation(orders uint64) command.Op {
	account, id := uint64(1+d.below(3)), 1+uint64(d.below(int(orders)+1))
	price, size := int64(1+d.below(6)), int64(1+d.below(9))
	switch d.below(12) {
	case 0, 1:
		return command.Op{Kind: command.Deposit, Account: account, Thing: 1 + d.below(2), Size: 50 * size}
	case 2:
		return command.Op{Kind: command.Withdraw, Account: account, Thing: 1 + d.below(2), Size: size}
	case 3:
		return command.Op{Kind: command.Cancel, Account: account, ID: id}
	case 4:
		return command.Op{Kind: command.Amend, Account: account, ID: id, Price: price, Size: size}
	case 5:
		return command.Op{Kind: command.Tick, N: uint64(d.below(3))}
	}
	o := command.Op{Kind: command.Place, Account: account, Side: 1 + d.below(2), Type: 1 + d.below(5), Price: price, Size: size}
	if o.Type == api.Market {
		o.Price = 0
	}
	if o.Type == api.Limit {
		o.Expiry = uint64(d.below(2) * d.below(20))
	}
	return o
}

// TestMarket: P29.1, P29.4, of a market that goes on: a dump tells all that it has, so that one that is laid is the same market, and goes on as it does.
func TestMarket(t *testing.T) {
	c := dice(2904)
	for run := range 40 {
		o := overlay.Over(nil)
		other := overlay.Over(nil)
		for i := range 100 {
			what := fmt.Sprint("run ", run, ", operation ", i)
			op := c.operation(uint64(i))
			r := command.Do(engine.On(o), op)
			if i%10 != 0 {
				want(t, what+": the same reply", engine.Same(r, command.Do(engine.On(other), op)), true)
			} else {
				d, e := dump.Of(o)
				want(t, what+": Of", e, api.OK)
				listed(t, what+": all that there is", pairs(d), all(o))
				other = overlay.Over(nil)
				want(t, what+": Lay", d.Lay(other), api.OK)
			}
			listed(t, what, all(other), all(o))
			if t.Failed() {
				return
			}
		}
	}
}
