package tape_test

import (
	"fmt"
	"testing"

	"bourse/api"
	"bourse/command"
	"bourse/overlay"
	"bourse/store"
	"bourse/tape"
)

// dice: numbers that look like chance, the same each time.
type dice uint64

func (d *dice) below(n int) int {
	*d = *d*6364136223846793005 + 1442695040888963407
	x := uint64(*d)
	return int((x ^ x>>29) >> 20 % uint64(n))
}

// operation: of a small market; some are refused.
func (d *dice) operation() command.Op {
	account, id := uint64(1+d.below(3)), uint64(1+d.below(30))
	side, price, size := 1+d.below(2), int64(1+d.below(9)), int64(d.below(12))
	switch d.below(10) {
	case 0:
		return command.Op{Kind: command.Cancel, Account: account, ID: id}
	case 1:
		return command.Op{Kind: command.Amend, Account: account, ID: id, Price: price, Size: size}
	case 2:
		return tick(uint64(d.below(3)))
	case 3:
		return withdraw(account, side, size)
	case 4:
		return deposit(account, side, 20*size)
	case 5:
		return command.Op{Kind: command.Depth + d.below(2)*2, Account: 0, Side: 0}
	case 6:
		return command.Op{Kind: command.Depth, Side: side, Most: 1 + d.below(40)}
	}
	return command.Op{Kind: command.Place, Account: account, Side: side, Type: 1 + d.below(5), Price: price, Size: size, Expiry: uint64(d.below(2) * d.below(60))}
}

// TestModel is P36.1 to P36.3, by dice: what is laid is told so, cut anywhere, and played it answers what the model answers.
func TestModel(t *testing.T) {
	d := dice(36)
	for run := range 60 {
		l := []command.Op{deposit(1, api.Cash, 900), deposit(2, api.Goods, 300), deposit(3, api.Goods, 40), deposit(3, api.Cash, 100)}
		ends := []int{0}
		for range d.below(60) {
			l = append(l, d.operation())
		}
		for i := range l {
			ends = append(ends, len(tapeOf(t, l[:i+1]...)))
		}
		s := tapeOf(t, l...)
		n := d.below(len(l) + 1)
		cut := ends[n]
		if n < len(l) {
			cut += d.below(ends[n+1] - cut)
		}
		what := fmt.Sprintf("run %d, %d of %d operations, cut at %d", run, n, len(l), cut)
		wanted, e := fine(l[:n]), api.OK
		if cut > ends[n] {
			wanted, e = append(wanted, broken(api.ErrForm)), api.ErrForm
		}
		list(t, what, row(s[:cut]), wanted...)
		want(t, what+": Whole", tape.Whole(s[:cut]), ends[n])

		_, m := fresh(t, store.Options{Memo: 300 + d.below(3000), Table: 400 + d.below(2000)})
		shelf := overlay.New()
		got, err := tape.Play(m, s[:cut])
		want(t, what+": Play", err, e)
		replies(t, what+": replies", got, model(shelf, l[:n])...)
		list(t, what+": all that is there", all(m.View()), all(shelf)...)
		rest, err := tape.Play(m, tapeOf(t, l[n:]...))
		want(t, what+": the rest", err, api.OK)
		replies(t, what+": the rest's replies", rest, model(shelf, l[n:])...)
		if t.Failed() {
			return
		}
	}
}
