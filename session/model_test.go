package session_test

import (
	"fmt"
	"testing"

	"bourse/api"
	"bourse/command"
	"bourse/disk"
	"bourse/session"
	"bourse/store"
)

// dice: numbers that look like chance, the same each time.
type dice uint64

func (d *dice) below(n int) int {
	*d = *d*6364136223846793005 + 1442695040888963407
	x := uint64(*d)
	return int((x ^ x>>29) >> 20 % uint64(n))
}

// one: is it the one in so many?
func (d *dice) one(n int) bool { return d.below(n) == 0 }

// options: some.
func (d *dice) options() store.Options {
	o := store.Options{Memo: d.below(3) * d.below(400), Block: d.below(300), Table: d.below(500)}
	for range d.below(4) {
		o.Heights = append(o.Heights, 1+d.below(5))
	}
	return o
}

// operation: one of any kind, now and then a wrong one.
func (d *dice) operation(orders uint64) command.Op {
	account, id := uint64(1+d.below(3)), 1+uint64(d.below(int(orders)+1))
	price, size := int64(1+d.below(6)), int64(1+d.below(9))
	if d.one(30) {
		account = 0
	}
	if d.one(30) {
		size = -size
	}
	switch d.below(16) {
	case 0, 1:
		return deposit(account, (1+d.below(20))%3, 40*size)
	case 2:
		return withdraw(account, 1+d.below(2), size)
	case 3, 4:
		return cancel(account, id)
	case 5, 6:
		return amend(account, id, price, size)
	case 7:
		return tick(uint64(d.below(3)))
	case 8:
		return depth(d.below(3), d.below(34))
	case 9:
		return status(id)
	case 10:
		return money(account)
	case 11:
		if d.one(4) {
			return command.Op{Kind: d.below(12), Account: account, Side: d.below(3) - 1, N: uint64(d.below(2))}
		}
	}
	o := command.Op{Kind: command.Place, Account: account, Side: 1 + d.below(2), Type: 1 + d.below(5), Price: price, Size: size}
	if o.Type == api.Market {
		o.Price = 0
	}
	if o.Type == api.Limit {
		o.Expiry = uint64(d.below(2) * d.below(20))
	}
	return o
}

// funds: with them a run has something to do.
func funds() []command.Op {
	var l []command.Op
	for account := range uint64(3) {
		l = append(l, deposit(1+account, api.Cash, 200), deposit(1+account, api.Goods, 40))
	}
	return l
}

// orders: how many there were.
func orders(x *model) uint64 {
	n := uint64(0)
	for x.does(status(n+1)).Err == api.OK {
		n++
	}
	return n
}

// TestModel: P28.3, each reply is the model's, and so is all that stands, whatever the options, flushes and compactions, opened anew or not.
func TestModel(t *testing.T) {
	d := dice(28)
	seen := map[string]int{}
	for run := range 150 {
		x, device := begin(), fresh(t)
		m := opened(t, device, d.options())
		for i := range 60 {
			op := d.operation(orders(x))
			if i < len(funds()) {
				op = funds()[i]
			}
			what := fmt.Sprintf("run %d: %+v", run, op)
			r := both(t, m, x, op)
			seen[fmt.Sprint(op.Kind, r.Err == api.OK)]++
			if len(r.Trades) > 0 || len(r.Gone) > 0 {
				seen["trades or gone"]++
			}
			want(t, what+": Shut", m.Shut(), false)
			switch d.below(8) {
			case 0:
				seen[fmt.Sprint("Flush ", int(m.Store().Flush()))]++
			case 1, 2:
				seen[fmt.Sprint("Compact ", int(m.Store().Compact(d.below(3), d.below(4))))]++
			case 3:
				m = opened(t, device, d.options())
			case 4:
				device.Crash(nil)
				m = opened(t, device, d.options())
			}
			if t.Failed() {
				return
			}
		}
	}
	for kind := range command.Kinds() {
		want(t, fmt.Sprint("the dice did the kind ", kind), seen[fmt.Sprint(kind, true)] > 20, true)
		want(t, fmt.Sprint("the dice were refused the kind ", kind), seen[fmt.Sprint(kind, false)] > 5, true)
	}
	for _, what := range []string{"trades or gone", "Flush 0", "Compact 0"} {
		want(t, "the dice made "+what, seen[what] > 100, true)
	}
}

// TestSameByOptions: P28.3, one run of operations has the same replies, by whichever options.
func TestSameByOptions(t *testing.T) {
	d := dice(5)
	ops := funds()
	for i := range 120 {
		ops = append(ops, d.operation(uint64(i/3)))
	}
	for range 25 {
		m, x := opened(t, fresh(t), d.options()), begin()
		for _, op := range ops {
			replies(t, fmt.Sprintf("%+v", op), m.Do(op), x.does(op))
			if d.one(3) {
				m.Store().Compact(d.below(3), d.below(4))
			}
			if d.one(5) {
				m.Store().Flush()
			}
		}
		list(t, "all", all(m.View()), all(x.s)...)
	}
}

// harm: now and then something will fail.
func (d *dice) harm(device *disk.Disk) {
	switch d.below(16) {
	case 0:
		device.Fuse(d.below(12))
	case 1:
		device.Fault(d.below(12))
	case 2:
		device.Room(device.Used() + d.below(200))
	}
}

// healed: the disk as it was, behind a crash, mostly.
func (d *dice) healed(device *disk.Disk) {
	if device.Down() || d.one(2) {
		device.Crash([]api.Fate{{Keep: d.below(3) * d.below(150), At: d.below(40), Turn: byte(d.below(2) * d.below(256))}, {Keep: d.below(500)}})
	}
	device.Room(1 << 24)
	device.Fault(-1)
	device.Fuse(-1)
}

// either: a market opened anew has what the model has, or that and the one that was under way, whole; which of them.
func either(t *testing.T, what string, m *session.Market, x *model, under command.Op) *model {
	t.Helper()
	y := x.copied()
	y.does(under)
	if got := all(m.View()); len(y.last) > 0 && fmt.Sprint(got) == fmt.Sprint(all(y.s)) {
		return y
	}
	list(t, what+": all, opened anew", all(m.View()), all(x.s)...)
	return x
}

// TestModelFaults: P28.3, by dice, with steps that fail, a power that goes, a disk that is full: ErrStorage once, then all changes are refused, queries go on; opened anew there is what was told as done, and perhaps the one that had ErrStorage, whole.
func TestModelFaults(t *testing.T) {
	d := dice(7)
	seen := map[string]int{}
	for run := range 250 {
		x, device := begin(), fresh(t)
		m := opened(t, device, d.options())
		for i := range 40 {
			op := d.operation(orders(x))
			if i < len(funds()) {
				op = funds()[i]
			}
			what := fmt.Sprintf("run %d: %+v", run, op)
			d.harm(device)
			r := m.Do(op)
			under := command.Op{}
			if r.Err == api.ErrStorage {
				seen["storage"]++
				under = op
				replies(t, what, r, store35)
				want(t, what+": Shut", m.Shut(), true)
			} else {
				replies(t, what, r, x.does(op))
			}
			list(t, what+": all", all(m.View()), all(x.s)...)
			if m.Shut() {
				seen["shut"]++
				shut(t, what, device, m, x)
				d.healed(device)
				m = opened(t, device, d.options())
				y := either(t, what, m, x, under)
				if y != x {
					seen["whole"]++
				} else if under.Kind != 0 {
					seen["gone"]++
				}
				x = y
			}
			if t.Failed() {
				return
			}
		}
	}
	for _, what := range []string{"storage", "shut", "whole", "gone"} {
		want(t, fmt.Sprint("the dice made ", what, ", ", seen[what]), seen[what] > 30, true)
	}
	want(t, "a Flush failed", seen["shut"] > seen["storage"]+20, true)
}
