package session_test

import (
	"fmt"
	"math"
	"slices"
	"testing"

	"bourse/api"
	"bourse/command"
	"bourse/disk"
	"bourse/engine"
	"bourse/store"
)

// store35: ErrStorage alone.
var store35 = engine.Reply{Err: api.ErrStorage}

// changing: operations behind the street, each of which changes something.
func changing() []command.Op {
	return []command.Op{
		limit(1, api.Buy, 9, 12, 0), cancel(3, 5), amend(1, 1, 3, 9), withdraw(1, api.Cash, 2), tick(2), deposit(9, api.Goods, 1),
		{Kind: command.Place, Account: 2, Side: api.Sell, Type: api.Market, Size: 20},
	}
}

// loose: how many bytes of a disk are.
func loose(d *disk.Disk) int {
	n := 0
	for _, name := range d.List() {
		n += d.Loose(name)
	}
	return n
}

// fates: first parts of so many bytes, with none turned, and with bits turned in some.
func fates(n int) []api.Fate {
	var l []api.Fate
	for keep := 0; keep <= n; keep += 1 + n/25 {
		l = append(l, api.Fate{Keep: keep}, api.Fate{Keep: keep, At: keep / 2, Turn: 0x80})
	}
	for at := 0; at < n; at += 1 + n/15 {
		l = append(l, api.Fate{Keep: n, At: at, Turn: 1 << (at % 8)})
	}
	return append(l, api.Fate{Keep: math.MaxInt}, api.Fate{Keep: math.MinInt})
}

// TestCrash: P28.3, the power goes ahead of each step of an operation, whatever becomes of what is loose: opened anew it is there whole, or not at all; whole, where it was told as done.
func TestCrash(t *testing.T) {
	for _, o := range []store.Options{{}, {Memo: 1, Block: 80}} {
		for _, op := range changing() {
			ends := map[bool]int{}
			over := false
			for fuse := 0; !over; fuse++ {
				d, m, _ := begun(t, o)
				d.Fuse(fuse)
				m.Do(op)
				for _, f := range fates(loose(d)) {
					d, m, x := begun(t, o)
					d.Fuse(fuse)
					r := m.Do(op)
					over = !d.Down()
					d.Crash(slices.Repeat([]api.Fate{f}, 4))
					what := fmt.Sprintf("%+v, behind %d steps, %v", op, fuse, f)
					m = opened(t, d, o)
					if r.Err == api.OK {
						replies(t, what, r, x.does(op))
						list(t, what+": all that was told", all(m.View()), all(x.s)...)
						continue
					}
					replies(t, what, r, store35)
					ends[either(t, what, m, x, op) == x]++
					if t.Failed() {
						return
					}
				}
			}
			want(t, fmt.Sprintf("%+v: both ends came", op), ends[true] > 5 && ends[false] > 0, true)
		}
	}
}

// TestDepositThenCrash: the chapter's example.
func TestDepositThenCrash(t *testing.T) {
	d := fresh(t)
	m := opened(t, d, store.Options{})
	replies(t, "deposit", m.Do(deposit(1, api.Cash, 500)), engine.Reply{})
	d.Crash(nil)
	replies(t, "money", opened(t, d, store.Options{}).Do(money(1)), engine.Reply{Money: [2]api.Balance{{Free: 500}}})
}
