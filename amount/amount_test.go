package amount_test

import (
	"fmt"
	"math"
	"math/big"
	"slices"
	"testing"

	"bourse/amount"
	"bourse/api"
)

const (
	least    = math.MinInt64
	greatest = math.MaxInt64
)

// want: a test fails, if something is another thing than was wanted.
func want[T comparable](t *testing.T, what string, got, wanted T) {
	t.Helper()
	if got != wanted {
		t.Errorf("%s: %v, wanted %v", what, got, wanted)
	}
}

// answers: a number and an error.
func answers(t *testing.T, what string, n int64, e api.Errno, wanted int64, fault api.Errno) {
	t.Helper()
	if n != wanted || e != fault {
		t.Errorf("%s: %d and %v, wanted %d and %v", what, n, e, wanted, fault)
	}
}

// dice: numbers that look like chance, the same each time.
type dice uint64

func (d *dice) next() uint64 {
	*d = *d*6364136223846793005 + 1442695040888963407
	n := uint64(*d)
	return n ^ n>>29
}

func (d *dice) below(n int) int { return int(d.next() >> 20 % uint64(n)) }

// number: of any length, above 0 and below.
func (d *dice) number() int64 { return int64(d.next()) >> d.below(64) }

// numbers: 0, the ends, the roots of the ends, the powers of two, each with what is beside it.
func numbers() []int64 {
	l := []int64{0, 3037000499, -3037000499, 10, 1000000007, greatest / 3, least / 3, greatest / 10, greatest / 7, 123456789}
	for shift := range 64 {
		n := int64(1) << shift
		l = append(l, n-1, n, n+1, -n-1, -n, -n+1)
	}
	slices.Sort(l)
	return slices.Compact(l)
}

// told: what a number without an end is as an answer.
func told(n *big.Int) (int64, api.Errno) {
	if !n.IsInt64() {
		return 0, api.ErrOver
	}
	return n.Int64(), api.OK
}

// pair: all calls of two numbers, against numbers without an end.
func pair(t *testing.T, a, b int64) {
	t.Helper()
	x, y := big.NewInt(a), big.NewInt(b)
	wanted, fault := told(new(big.Int).Add(x, y))
	n, e := amount.Add(a, b)
	answers(t, fmt.Sprintf("Add(%d, %d)", a, b), n, e, wanted, fault)
	n, e = amount.Sum(a, b)
	answers(t, fmt.Sprintf("Sum(%d, %d)", a, b), n, e, wanted, fault)

	wanted, fault = told(new(big.Int).Sub(x, y))
	n, e = amount.Sub(a, b)
	answers(t, fmt.Sprintf("Sub(%d, %d)", a, b), n, e, wanted, fault)

	wanted, fault = told(new(big.Int).Mul(x, y))
	n, e = amount.Mul(a, b)
	answers(t, fmt.Sprintf("Mul(%d, %d)", a, b), n, e, wanted, fault)
	if wanted < 0 {
		wanted, fault = 0, api.ErrUnder
	}
	n, e = amount.Cost(a, b)
	answers(t, fmt.Sprintf("Cost(%d, %d)", a, b), n, e, wanted, fault)
	affords(t, a, b)
}

// affords: P19.2, P19.3, it costs no more than there is, and one more would; 0 of what isn't a price, or where there is less than that.
func affords(t *testing.T, cash, price int64) {
	t.Helper()
	what := fmt.Sprintf("Afford(%d, %d)", cash, price)
	n := amount.Afford(cash, price)
	if price < 1 || cash < price {
		want(t, what, n, 0)
		return
	}
	has, one := big.NewInt(cash), big.NewInt(price)
	costs := new(big.Int).Mul(big.NewInt(n), one)
	want(t, what+": it is something", n > 0, true)
	want(t, what+": no more than there is", costs.Cmp(has) <= 0, true)
	want(t, what+": one more costs more", costs.Add(costs, one).Cmp(has) > 0, true)
	cost, e := amount.Cost(price, n)
	want(t, what+": its Cost", cost <= cash && e == api.OK, true)
	if n < greatest {
		cost, e = amount.Cost(price, n+1)
		want(t, what+": the Cost of one more", e == api.ErrOver || e == api.OK && cost > cash, true)
	}
}

// TestExamples: P19.1, P19.2, by hand.
func TestExamples(t *testing.T) {
	for _, c := range []struct {
		what  string
		do    func(a, b int64) (int64, api.Errno)
		a, b  int64
		want  int64
		fault api.Errno
	}{
		{"Add", amount.Add, 2, 3, 5, api.OK},
		{"Add", amount.Add, 2, -3, -1, api.OK},
		{"Add", amount.Add, greatest, 0, greatest, api.OK},
		{"Add", amount.Add, greatest - 1, 1, greatest, api.OK},
		{"Add", amount.Add, greatest, 1, 0, api.ErrOver},
		{"Add", amount.Add, 1, greatest, 0, api.ErrOver},
		{"Add", amount.Add, greatest, greatest, 0, api.ErrOver},
		{"Add", amount.Add, greatest, least, -1, api.OK},
		{"Add", amount.Add, least + 1, -1, least, api.OK},
		{"Add", amount.Add, least, -1, 0, api.ErrOver},
		{"Add", amount.Add, least, least, 0, api.ErrOver},
		{"Sub", amount.Sub, 2, 3, -1, api.OK},
		{"Sub", amount.Sub, 2, -3, 5, api.OK},
		{"Sub", amount.Sub, least, 0, least, api.OK},
		{"Sub", amount.Sub, least, 1, 0, api.ErrOver},
		{"Sub", amount.Sub, -1, least, greatest, api.OK},
		{"Sub", amount.Sub, 0, least, 0, api.ErrOver},
		{"Sub", amount.Sub, greatest, -1, 0, api.ErrOver},
		{"Sub", amount.Sub, greatest, greatest, 0, api.OK},
		{"Sub", amount.Sub, least, least, 0, api.OK},
		{"Sub", amount.Sub, -2, greatest, 0, api.ErrOver},
		{"Mul", amount.Mul, 6, 7, 42, api.OK},
		{"Mul", amount.Mul, 6, -7, -42, api.OK},
		{"Mul", amount.Mul, 1 << 40, 1 << 40, 0, api.ErrOver},
		{"Mul", amount.Mul, 1 << 31, 1 << 32, 0, api.ErrOver},
		{"Mul", amount.Mul, 1 << 31, -1 << 32, least, api.OK},
		{"Mul", amount.Mul, 1 << 32, 1 << 32, 0, api.ErrOver},
		{"Mul", amount.Mul, least, -1, 0, api.ErrOver},
		{"Mul", amount.Mul, -1, least, 0, api.ErrOver},
		{"Mul", amount.Mul, least, 1, least, api.OK},
		{"Mul", amount.Mul, greatest, -1, -greatest, api.OK},
		{"Mul", amount.Mul, 0, least, 0, api.OK},
		{"Mul", amount.Mul, least, 0, 0, api.OK},
		{"Cost", amount.Cost, 10, 3, 30, api.OK},
		{"Cost", amount.Cost, 0, 3, 0, api.OK},
		{"Cost", amount.Cost, 10, 0, 0, api.OK},
		{"Cost", amount.Cost, -10, 3, 0, api.ErrUnder},
		{"Cost", amount.Cost, 10, -3, 0, api.ErrUnder},
		{"Cost", amount.Cost, -10, -3, 30, api.OK},
		{"Cost", amount.Cost, 1, -1, 0, api.ErrUnder},
		{"Cost", amount.Cost, 1, least, 0, api.ErrUnder},
		{"Cost", amount.Cost, 2, least, 0, api.ErrOver},
		{"Cost", amount.Cost, -1, least, 0, api.ErrOver},
		{"Cost", amount.Cost, 1 << 40, 1<<23 - 1, 1<<63 - 1<<40, api.OK},
		{"Cost", amount.Cost, 1 << 40, 1 << 23, 0, api.ErrOver},
	} {
		n, e := c.do(c.a, c.b)
		answers(t, fmt.Sprintf("%s(%d, %d)", c.what, c.a, c.b), n, e, c.want, c.fault)
	}
}

// TestPairs: P19.1, P19.2, P19.3, all small numbers, all ends, and some in between.
func TestPairs(t *testing.T) {
	for a := int64(-40); a <= 40; a++ {
		for b := int64(-40); b <= 40; b++ {
			pair(t, a, b)
		}
	}
	for _, a := range numbers() {
		for _, b := range numbers() {
			pair(t, a, b)
		}
		if t.Failed() {
			return
		}
	}
	d := dice(19)
	for range 60000 {
		pair(t, d.number(), d.number())
		if t.Failed() {
			return
		}
	}
}

// TestProductsAtTheEnds: P19.1, of each number the greatest and the least other one, and what is beyond.
func TestProductsAtTheEnds(t *testing.T) {
	d := dice(3)
	for range 20000 {
		a := d.number()
		if a == 0 {
			continue
		}
		for _, b := range []int64{greatest / a, -(greatest / a), least / a, d.number() / a} {
			for _, by := range []int64{-2, -1, 0, 1, 2} {
				pair(t, a, b+by)
				pair(t, b+by, a)
			}
		}
		if t.Failed() {
			return
		}
	}
}

// TestSum: P19.1, of all, one behind the other; the first error.
func TestSum(t *testing.T) {
	for _, c := range []struct {
		l     []int64
		want  int64
		fault api.Errno
	}{
		{nil, 0, api.OK},
		{[]int64{}, 0, api.OK},
		{[]int64{7}, 7, api.OK},
		{[]int64{-7}, -7, api.OK},
		{[]int64{greatest}, greatest, api.OK},
		{[]int64{least}, least, api.OK},
		{[]int64{1, 2, 3, 4}, 10, api.OK},
		{[]int64{1, -2, 3, -4}, -2, api.OK},
		{[]int64{greatest, 1, -1}, 0, api.ErrOver},
		{[]int64{greatest, -1, 1}, greatest, api.OK},
		{[]int64{-1, greatest, 1}, greatest, api.OK},
		{[]int64{least, -1, 1}, 0, api.ErrOver},
		{[]int64{least, 1, -1}, least, api.OK},
		{[]int64{greatest, least, greatest, least}, -2, api.OK},
		{[]int64{greatest, greatest, least, least}, 0, api.ErrOver},
		{[]int64{1 << 62, 1 << 62, least}, 0, api.ErrOver},
		{[]int64{1 << 62, least, 1 << 62}, 0, api.OK},
		{[]int64{greatest, greatest, greatest}, 0, api.ErrOver},
		{[]int64{0, 0, 0, greatest, 0, 0, 1, 0}, 0, api.ErrOver},
	} {
		given := slices.Clone(c.l)
		n, e := amount.Sum(given...)
		answers(t, fmt.Sprint("Sum of ", c.l), n, e, c.want, c.fault)
		want(t, fmt.Sprint("what was handed in stays: ", c.l), slices.Equal(given, c.l), true)
	}
	n, e := amount.Sum()
	answers(t, "Sum()", n, e, 0, api.OK)
}

// TestSums: P19.1, any number of amounts, against numbers without an end.
func TestSums(t *testing.T) {
	d := dice(5)
	over := 0
	for range 30000 {
		l := make([]int64, d.below(12))
		// By small shifts most sums come near the ends.
		shift := d.below(8)
		all := new(big.Int)
		wanted, fault := int64(0), api.OK
		for i := range l {
			l[i] = int64(d.next()) >> shift
			all.Add(all, big.NewInt(l[i]))
			if fault == api.OK {
				wanted, fault = told(all)
			}
		}
		if fault != api.OK {
			over++
		}
		n, e := amount.Sum(l...)
		answers(t, fmt.Sprint("Sum of ", l), n, e, wanted, fault)
	}
	want(t, fmt.Sprint(over, " are too much: some, but not most"), over > 300 && over < 15000, true)
	n, e := amount.Sum(slices.Repeat([]int64{3}, 100000)...)
	answers(t, "many", n, e, 300000, api.OK)
}

// TestRight: P19.2, the price first, then the size, each from 1 to 2^40.
func TestRight(t *testing.T) {
	good := []int64{1, 2, 1000, 1<<40 - 1, 1 << 40}
	bad := []int64{0, -1, 1<<40 + 1, 1 << 41, -(1 << 40), 1<<40 + 1<<32, greatest, least}
	for _, price := range good {
		for _, size := range good {
			want(t, fmt.Sprintf("Right(%d, %d)", price, size), amount.Right(price, size), api.OK)
		}
		for _, size := range bad {
			want(t, fmt.Sprintf("Right(%d, %d)", price, size), amount.Right(price, size), api.ErrSize)
		}
	}
	for _, price := range bad {
		for _, size := range slices.Concat(good, bad) {
			want(t, fmt.Sprintf("Right(%d, %d)", price, size), amount.Right(price, size), api.ErrPrice)
		}
	}
}

// TestAfford: P19.2, by hand, and the ends.
func TestAfford(t *testing.T) {
	for _, c := range []struct{ cash, price, want int64 }{
		{10, 3, 3},
		{9, 3, 3},
		{8, 3, 2},
		{3, 3, 1},
		{2, 3, 0},
		{0, 3, 0},
		{0, 1, 0},
		{0, 0, 0},
		{-1, 3, 0},
		{-10, 3, 0},
		{-10, -3, 0},
		{10, 0, 0},
		{10, -1, 0},
		{10, -3, 0},
		{10, least, 0},
		{least, 1, 0},
		{least, -1, 0},
		{least, least, 0},
		{least, 0, 0},
		{greatest, 1, greatest},
		{greatest, 2, greatest / 2},
		{greatest, 1 << 40, 1<<23 - 1},
		{greatest, greatest - 1, 1},
		{greatest, greatest, 1},
		{greatest - 1, greatest, 0},
		{1 << 60, 1, 1 << 60},
	} {
		want(t, fmt.Sprintf("Afford(%d, %d)", c.cash, c.price), amount.Afford(c.cash, c.price), c.want)
		affords(t, c.cash, c.price)
	}
}
