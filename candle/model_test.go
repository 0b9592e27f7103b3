package candle_test

import (
	"fmt"
	"math/big"
	"slices"
	"testing"

	"bourse/api"
	"bourse/candle"
)

// dice: numbers that look like chance, the same each time.
type dice uint64

func (d *dice) below(n int) int {
	*d = *d*6364136223846793005 + 1442695040888963407
	x := uint64(*d)
	return int((x ^ x>>29) >> 20 % uint64(n))
}

// number: mostly a small one, else one about the ends and the halves.
func (d *dice) number() int64 {
	l := []int64{0, most, least, 1 << 62, -1 << 62, 1 << 40}
	if d.below(6) > 0 {
		return int64(d.below(21) - 10)
	}
	return l[d.below(len(l))] + int64(d.below(5)-2)
}

// candle: of any numbers, now and then without trades.
func (d *dice) candle() candle.Candle {
	trades := d.below(4)
	if d.below(9) == 0 {
		trades = int(d.number())
	}
	return candleOf(d.number(), d.number(), d.number(), d.number(), d.number(), trades)
}

// fits: is it a number of 64 bits?
func fits(n *big.Int) bool { return n.IsInt64() }

// told: a join told once more, in numbers without an end.
func told(c, d candle.Candle) (candle.Candle, api.Errno) {
	switch {
	case c.Trades == 0:
		return d, api.OK
	case d.Trades == 0:
		return c, api.OK
	}
	size := new(big.Int).Add(big.NewInt(c.Size), big.NewInt(d.Size))
	if !fits(size) {
		return candle.Candle{}, api.ErrOver
	}
	prices := []int64{c.High, d.High}
	lows := []int64{c.Low, d.Low}
	return candleOf(c.First, slices.Max(prices), slices.Min(lows), d.Last, size.Int64(), int(uint64(c.Trades)+uint64(d.Trades))), api.OK
}

// body: told once more; what is beyond the ends is cut.
func body(c candle.Candle) int64 {
	n := new(big.Int).Sub(big.NewInt(c.Last), big.NewInt(c.First))
	switch {
	case fits(n):
		return n.Int64()
	case n.Sign() < 0:
		return least
	}
	return most
}

// TestJoinModel is P35.1 and P35.2's Body, by dice.
func TestJoinModel(t *testing.T) {
	d := dice(35)
	for range 20000 {
		a, b := d.candle(), d.candle()
		got, e := a.Join(b)
		wanted, we := told(a, b)
		want(t, fmt.Sprint(a, " and ", b), got, wanted)
		want(t, fmt.Sprint(a, " and ", b, ": error"), e, we)
		want(t, fmt.Sprint("the body of ", a), a.Body(), body(a))
	}
}

// spansTold: P35.2 once more, place by place.
func spansTold(l []candle.Candle, every int) ([]candle.Candle, api.Errno) {
	if every < 1 {
		return nil, api.ErrArg
	}
	var out []candle.Candle
	for i, c := range l {
		if i%every == 0 {
			out = append(out, c)
			continue
		}
		more, e := told(out[len(out)-1], c)
		if e != api.OK {
			return nil, e
		}
		out[len(out)-1] = more
	}
	return out, api.OK
}

// TestSpansModel is P35.2, by dice.
func TestSpansModel(t *testing.T) {
	d := dice(352)
	for range 5000 {
		things := make([]candle.Tick, d.below(12))
		candles := make([]candle.Candle, d.below(12))
		for i := range things {
			things[i] = candle.Tick{Price: d.number(), Size: d.number()}
		}
		for i := range candles {
			candles[i] = d.candle()
		}
		every := d.below(8) - 1
		what := fmt.Sprint("each ", every, " of ", things)
		got, e := candle.Of(things, every)
		wanted, we := spansTold(ones(things), every)
		list(t, what, got, wanted...)
		want(t, what+": error", e, we)
		what = fmt.Sprint("each ", every, " of ", candles)
		got, e = candle.Fold(candles, every)
		wanted, we = spansTold(candles, every)
		list(t, what, got, wanted...)
		want(t, what+": error", e, we)
	}
}

// TestFoldOfFold is P35.3: folding what was folded is folding by as many times as many.
func TestFoldOfFold(t *testing.T) {
	d := dice(353)
	for range 5000 {
		l := make([]candle.Tick, d.below(40))
		for i := range l {
			l[i] = candle.Tick{Price: d.number(), Size: int64(1 + d.below(1<<20))}
		}
		n, m := 1+d.below(6), 1+d.below(6)
		some, e := candle.Of(l, n)
		want(t, "Of", e, api.OK)
		got, e := candle.Fold(some, m)
		want(t, "Fold", e, api.OK)
		wanted, e := candle.Of(l, n*m)
		want(t, "at once", e, api.OK)
		list(t, fmt.Sprint("each ", n, ", then each ", m, ", of ", l), got, wanted...)
		again, e := candle.Fold(ones(l), n*m)
		want(t, "candles at once", e, api.OK)
		list(t, fmt.Sprint("each ", n*m, " of candles of ", l), again, wanted...)
	}
}

// TestFoldOfFoldOver is P35.3: of sizes that aren't below 0 one is too much in both ways, or in none.
func TestFoldOfFoldOver(t *testing.T) {
	d := dice(354)
	over := 0
	for range 5000 {
		l := make([]candle.Tick, d.below(20))
		for i := range l {
			l[i] = candle.Tick{Price: d.number(), Size: int64(most) >> (1 + d.below(6))}
		}
		n, m := 1+d.below(4), 1+d.below(4)
		got, e := candle.Of(l, n)
		if e == api.OK {
			got, e = candle.Fold(got, m)
		}
		wanted, we := candle.Of(l, n*m)
		list(t, fmt.Sprint("each ", n, ", then each ", m, ", of ", l), got, wanted...)
		want(t, fmt.Sprint("each ", n, ", then each ", m, ", of ", l, ": error"), e, we)
		if we == api.ErrOver {
			over++
		}
	}
	want(t, fmt.Sprint("too much ", over, " times"), over > 1000 && over < 4000, true)
}
