package season_test

import (
	"fmt"
	"math/big"
	"slices"
	"testing"

	"bourse/api"
	"bourse/season"
)

// dice: numbers that look like chance, the same each time.
type dice uint64

func (d *dice) next() uint64 {
	*d = *d*6364136223846793005 + 1442695040888963407
	x := uint64(*d)
	return x ^ x>>29
}

func (d *dice) below(n int) int { return int(d.next() >> 20 % uint64(n)) }

// row: of up to so many numbers, of any length up to so many bits, above 0 and below.
func (d *dice) row(n, bits int) []int64 {
	l := make([]int64, d.below(n+1))
	for i := range l {
		l[i] = int64(d.next()) >> (63 - d.below(bits+1))
	}
	return l
}

// whole: a complex number without an end.
type whole struct{ re, im big.Int }

// add: a number, times a turn: the turn's own parts are told by hand.
func (w *whole) add(n int64, turn int) {
	part := []*big.Int{&w.re, &w.im}[turn&1]
	if turn&3 < 2 {
		part.Add(part, big.NewInt(n))
	} else {
		part.Sub(part, big.NewInt(n))
	}
}

// told: as the wave that it is.
func (w *whole) told() complex128 {
	re, _ := new(big.Float).SetInt(&w.re).Float64()
	im, _ := new(big.Float).SetInt(&w.im).Float64()
	return complex(re, im)
}

// wave: a row's wave of m, as the chapter's words say.
func wave(l []int64, m int) complex128 {
	var w whole
	for place, n := range l {
		w.add(n, -m*place)
	}
	return w.told()
}

// sums: a row's, by places.
func sums(l []int64) [4]int64 {
	var s [4]int64
	for place, n := range l {
		s[place%4] += n
	}
	return s
}

// beside: two rows put together, place by place.
func beside(a, b []int64) []int64 {
	if len(a) < len(b) {
		a, b = b, a
	}
	l := slices.Clone(a)
	for i, n := range b {
		l[i] += n
	}
	return l
}

// TestModel is P33.1 and P33.2 by dice: waves, what they go back to, their powers.
func TestModel(t *testing.T) {
	d := dice(33)
	for range 3000 {
		l := d.row(20, 45)
		w := made(t, l)
		for m := range 4 {
			want(t, fmt.Sprint("wave ", m, " of ", l), w[m], wave(l, m))
		}
		back, ok := w.Back()
		want(t, fmt.Sprint("the sums of ", l), back, sums(l))
		want(t, fmt.Sprint("are there sums of ", l), ok, true)
	}
}

// TestModelTurns is P33.1 by dice: a row of one number is turned by its place.
func TestModelTurns(t *testing.T) {
	for place := range 40 {
		w := made(t, append(make([]int64, place), 1))
		for m := range 4 {
			want(t, fmt.Sprintf("wave %d of place %d", m, place), w[m], season.Turn(-m*place))
		}
	}
}

// TestModelMost is P33.1 by dice: rows whose sizes come to more, or not.
func TestModelMost(t *testing.T) {
	d := dice(331)
	kept := 0
	for range 4000 {
		l := d.row(8, 49+d.below(15))
		var all big.Int
		for _, n := range l {
			all.Add(&all, new(big.Int).Abs(big.NewInt(n)))
		}
		wanted := all.Cmp(big.NewInt(most)) <= 0
		w, ok := season.Of(l)
		want(t, fmt.Sprint("are there waves of ", l), ok, wanted)
		if ok {
			kept++
		} else {
			want(t, fmt.Sprint("waves of ", l), w, season.Wave{})
		}
	}
	if kept < 500 || kept > 3500 {
		t.Errorf("%d of 4000 rows have waves", kept)
	}
}

// TestModelPower is P33.2 by dice: powers that are told exactly.
func TestModelPower(t *testing.T) {
	d := dice(332)
	for range 3000 {
		l := d.row(6, 23)
		w := made(t, l)
		for m := range 4 {
			re, im := int64(real(w[m])), int64(imag(w[m]))
			want(t, fmt.Sprint("the power of wave ", m, " of ", l), w.Power(m+4*(d.below(9)-4)), re*re+im*im)
		}
	}
}

// TestModelPowerFar is P33.2 by dice: beyond 2^53 a power is as near as a float comes, from 2^62 on it isn't told.
func TestModelPowerFar(t *testing.T) {
	d := dice(333)
	for range 3000 {
		re, im := int64(d.next())>>(31+d.below(3)), int64(d.next())>>(31+d.below(33))
		exact := new(big.Int).Add(square(re), square(im))
		got := season.Wave{complex(float64(re), float64(im))}.Power(0)
		if exact.Cmp(big.NewInt(1<<62+1024)) >= 0 {
			want(t, fmt.Sprint("the power of ", re, " ", im), got, -1)
		} else if exact.Cmp(big.NewInt(1<<62-1024)) < 0 {
			far := new(big.Int).Sub(exact, big.NewInt(got))
			// Two products and a sum are rounded, each by half a float's last place at most: of one product that is 128.
			want(t, fmt.Sprint("is ", got, " the power of ", re, " ", im), far.CmpAbs(big.NewInt(640)) <= 0, true)
		}
	}
}

func square(n int64) *big.Int { return new(big.Int).Mul(big.NewInt(n), big.NewInt(n)) }

// TestModelBack is P33.2 by dice: waves that no row made, against sums of fractions without an end.
func TestModelBack(t *testing.T) {
	d := dice(334)
	there := 0
	for range 20000 {
		var w season.Wave
		unit := []float64{1, 0.5, 0.25, 2, 4, 1 << 50, 1 << 53}[d.below(7)]
		for m := range w {
			w[m] = complex(float64(d.below(9)-4)*unit, 0)
		}
		if d.below(2) == 0 {
			im := complex(0, float64(d.below(5)-2)*unit)
			w[1] += im
			w[3] -= im
		}
		if d.below(3) == 0 {
			w = made(t, d.row(8, 47)).Later(d.below(4))
		}
		if d.below(8) == 0 {
			w[d.below(4)] += complex(0, unit)
		}
		if d.below(8) == 0 {
			w[d.below(4)] -= complex(unit, 0)
		}
		wanted, ok := back(w)
		got, told := w.Back()
		want(t, fmt.Sprint("the sums of ", w), got, wanted)
		want(t, fmt.Sprint("are there sums of ", w), told, ok)
		if ok {
			there++
		}
	}
	if there < 1000 || there > 19000 {
		t.Errorf("%d of 20000 waves have sums", there)
	}
}

// back: as the chapter's words say.
func back(w season.Wave) ([4]int64, bool) {
	var s [4]int64
	for place := range s {
		var re, im big.Rat
		for m, z := range w {
			// The turn of m times the place, told by hand.
			parts := [][2]float64{{real(z), imag(z)}, {-imag(z), real(z)}, {-real(z), -imag(z)}, {imag(z), -real(z)}}[m*place%4]
			re.Add(&re, new(big.Rat).SetFloat64(parts[0]))
			im.Add(&im, new(big.Rat).SetFloat64(parts[1]))
		}
		re.Quo(&re, big.NewRat(4, 1))
		if !re.IsInt() || im.Sign() != 0 || re.Num().CmpAbs(big.NewInt(far)) > 0 {
			return [4]int64{}, false
		}
		s[place] = re.Num().Int64()
	}
	return s, true
}

// TestFollows is P33.3: rows put together, rows that begin later, sums that come back.
func TestFollows(t *testing.T) {
	d := dice(335)
	for range 3000 {
		a, b := d.row(14, 44), d.row(14, 44)
		w, v := made(t, a), made(t, b)
		want(t, fmt.Sprint("together ", a, b), w.Plus(v), made(t, beside(a, b)))
		n := d.below(12)
		later := append(make([]int64, n), a...)
		want(t, fmt.Sprint("later by ", n, ": ", a), w.Later(n), made(t, later))
		want(t, fmt.Sprint("earlier again by ", n, ": ", a), w.Later(n).Later(-n), w)
		back, ok := w.Later(n).Plus(v).Back()
		want(t, fmt.Sprint("all of it back: ", a, b), back, sums(beside(later, b)))
		want(t, "there is something", ok, true)
	}
}

// TestTradesAs is P33.1: the waves of trades are those of their sizes, whatever else they have.
func TestTradesAs(t *testing.T) {
	d := dice(336)
	for range 1000 {
		l := d.row(10, 47)
		trades := make([]api.Trade, len(l))
		for i, n := range l {
			trades[i] = api.Trade{Maker: d.next(), Taker: d.next(), Price: int64(d.next()), Size: n}
		}
		w, ok := season.Of(l)
		v, there := season.Trades(trades)
		want(t, fmt.Sprint("waves of trades of ", l), v, w)
		want(t, fmt.Sprint("are there waves of trades of ", l), there, ok)
	}
}
