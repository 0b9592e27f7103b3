package order_test

import (
	"fmt"
	"math"
	"math/big"
	"testing"

	"bourse/api"
	"bourse/order"
)

const (
	least    = math.MinInt64
	greatest = math.MaxInt64
	top      = 1 << 40 // the greatest price, the greatest size
)

// want: a test fails, if something is another thing than was wanted.
func want[T comparable](t *testing.T, what string, got, wanted T) {
	t.Helper()
	if got != wanted {
		t.Errorf("%s: %+v, wanted %+v", what, got, wanted)
	}
}

// same: as want, of bytes.
func same(t *testing.T, what, got, wanted string) {
	t.Helper()
	if got != wanted {
		t.Errorf("%s: %x, wanted %x", what, got, wanted)
	}
}

// sound: an order that may be.
func sound() api.Order {
	return api.Order{ID: 5, Account: 1, Side: api.Buy, Price: 10, Size: 4, Left: 3, Rank: 2, Expiry: 9, State: api.Resting}
}

// but: an order, with a change.
func but(change func(*api.Order)) api.Order {
	o := sound()
	change(&o)
	return o
}

// TestCheckIdentity: P20.1, ErrArg of the account and of the number alone.
func TestCheckIdentity(t *testing.T) {
	want(t, "sound", order.Check(sound()), api.OK)
	for _, account := range []uint64{0, 1, 1 << 63, math.MaxUint64} {
		for _, id := range []uint64{0, 1, 1 << 63, math.MaxUint64} {
			wanted := api.OK
			if account == 0 || id == 0 {
				wanted = api.ErrArg
			}
			got := order.Check(but(func(o *api.Order) { o.Account, o.ID = account, id }))
			want(t, fmt.Sprintf("the account %d, the number %d", account, id), got, wanted)
		}
	}
	for _, n := range []uint64{0, 1, 1 << 40, 1 << 41, math.MaxUint64} {
		want(t, fmt.Sprint("the rank ", n), order.Check(but(func(o *api.Order) { o.Rank = n })), api.OK)
		want(t, fmt.Sprint("the expiry ", n), order.Check(but(func(o *api.Order) { o.Expiry = n })), api.OK)
	}
}

// TestCheckNumbers: P20.1, the edges of sides, prices, sizes.
func TestCheckNumbers(t *testing.T) {
	for side, wanted := range map[int]api.Errno{math.MinInt: api.ErrSide, -2: api.ErrSide, -1: api.ErrSide, 0: api.ErrSide, 1: api.OK, 2: api.OK, 3: api.ErrSide, 1 + 1<<32: api.ErrSide, math.MaxInt: api.ErrSide} {
		want(t, fmt.Sprint("the side ", side), order.Check(but(func(o *api.Order) { o.Side = side })), wanted)
	}
	for n, ok := range map[int64]bool{least: false, -top: false, -1: false, 0: false, 1: true, 2: true, top - 1: true, top: true, top + 1: false, top << 1: false, greatest: false} {
		price, size := api.ErrPrice, api.ErrSize
		if ok {
			price, size = api.OK, api.OK
		}
		want(t, fmt.Sprint("the price ", n), order.Check(but(func(o *api.Order) { o.Price = n })), price)
		want(t, fmt.Sprint("the size ", n), order.Check(but(func(o *api.Order) { o.Size, o.Left = n, 1 })), size)
		want(t, fmt.Sprint("the size and what is left ", n), order.Check(but(func(o *api.Order) { o.Size, o.Left = n, n })), size)
	}
}

// state: which error an order of a state has, with nothing left, and with something.
type state struct {
	none, some api.Errno
}

// states: by hand.
func states() map[int]state {
	return map[int]state{
		math.MinInt:        {api.ErrKind, api.ErrKind},
		-1:                 {api.ErrKind, api.ErrKind},
		0:                  {api.ErrKind, api.ErrKind},
		api.Resting:        {api.ErrKind, api.OK},
		api.Filled:         {api.OK, api.ErrKind},
		api.Cancelled:      {api.OK, api.OK},
		api.Expired:        {api.OK, api.OK},
		5:                  {api.ErrKind, api.ErrKind},
		api.Filled + 1<<32: {api.ErrKind, api.ErrKind},
		math.MaxInt:        {api.ErrKind, api.ErrKind},
	}
}

// TestCheckLeft: P20.1, what is left is from 0 to the size; each state, with what is left.
func TestCheckLeft(t *testing.T) {
	for _, side := range []int{api.Buy, api.Sell} {
		for _, size := range []int64{1, 2, 9, top} {
			for _, left := range []int64{least, -1, 0, 1, size / 2, size - 1, size, size + 1, top + 1, greatest} {
				for s, fault := range states() {
					wanted := fault.some
					switch {
					case left < 0 || left > size:
						wanted = api.ErrSize
					case left == 0:
						wanted = fault.none
					}
					got := order.Check(but(func(o *api.Order) { o.Side, o.Size, o.Left, o.State = side, size, left, s }))
					want(t, fmt.Sprintf("the side %d, %d left of %d, the state %d", side, left, size, s), got, wanted)
				}
			}
		}
	}
}

// TestCheckFirst: P20.1, which error comes first.
func TestCheckFirst(t *testing.T) {
	wrongs := []struct {
		fault api.Errno
		do    func(*api.Order)
	}{
		{api.ErrArg, func(o *api.Order) { o.Account = 0 }},
		{api.ErrArg, func(o *api.Order) { o.ID = 0 }},
		{api.ErrSide, func(o *api.Order) { o.Side = 3 }},
		{api.ErrPrice, func(o *api.Order) { o.Price = 0 }},
		{api.ErrSize, func(o *api.Order) { o.Size = 0 }},
		{api.ErrSize, func(o *api.Order) { o.Left = -1 }},
		{api.ErrKind, func(o *api.Order) { o.State = 0 }},
	}
	for chosen := range 1 << len(wrongs) {
		wanted := api.OK
		o := but(func(o *api.Order) {
			for i := len(wrongs) - 1; i >= 0; i-- {
				if chosen>>i&1 == 1 {
					wrongs[i].do(o)
					wanted = wrongs[i].fault
				}
			}
		})
		want(t, fmt.Sprintf("%+v", o), order.Check(o), wanted)
	}
	want(t, "the zero one", order.Check(api.Order{}), api.ErrArg)
	want(t, "nothing but who and which", order.Check(api.Order{ID: 1, Account: 1}), api.ErrSide)
	want(t, "a side, too", order.Check(api.Order{ID: 1, Account: 1, Side: 1}), api.ErrPrice)
	want(t, "a price, too", order.Check(api.Order{ID: 1, Account: 1, Side: 1, Price: 1}), api.ErrSize)
	want(t, "a size, too", order.Check(api.Order{ID: 1, Account: 1, Side: 1, Price: 1, Size: 1}), api.ErrKind)
	want(t, "nothing left, but it rests", order.Check(api.Order{ID: 1, Account: 1, Side: 1, Price: 1, Size: 1, State: 1}), api.ErrKind)
}

// TestFits: P20.1, ErrUnder ahead of ErrOver.
func TestFits(t *testing.T) {
	l := []int64{least, least + 1, -top, -2, -1, 0, 1, 2, top, 1<<62 - 1, 1 << 62, greatest - 1, greatest}
	for _, free := range l {
		for _, held := range l {
			wanted := api.OK
			switch all := new(big.Int).Add(big.NewInt(free), big.NewInt(held)); {
			case free < 0 || held < 0:
				wanted = api.ErrUnder
			case !all.IsInt64():
				wanted = api.ErrOver
			}
			want(t, fmt.Sprintf("%d free, %d held", free, held), order.Fits(api.Balance{Free: free, Held: held}), wanted)
		}
	}
	for b, wanted := range map[api.Balance]api.Errno{
		{}:                               api.OK,
		{Free: 1, Held: 2}:               api.OK,
		{Free: -1}:                       api.ErrUnder,
		{Held: -1}:                       api.ErrUnder,
		{Free: -1, Held: 5}:              api.ErrUnder,
		{Free: greatest}:                 api.OK,
		{Held: greatest}:                 api.OK,
		{Free: greatest, Held: 1}:        api.ErrOver,
		{Free: 1, Held: greatest}:        api.ErrOver,
		{Free: greatest, Held: greatest}: api.ErrOver,
		{Free: greatest, Held: -1}:       api.ErrUnder,
		{Free: 1 << 62, Held: 1 << 62}:   api.ErrOver,
		{Free: 1<<62 - 1, Held: 1 << 62}: api.OK,
	} {
		want(t, fmt.Sprintf("%+v", b), order.Fits(b), wanted)
	}
}

// TestNeeds: P20.2, of a Buy Cash, of any other side Goods, whatever else the order is.
func TestNeeds(t *testing.T) {
	for _, c := range []struct {
		price, left int64
		cash        int64
		fault       api.Errno
	}{
		{10, 3, 30, api.OK},
		{10, 0, 0, api.OK},
		{0, 3, 0, api.OK},
		{1, 1, 1, api.OK},
		{top, 1, top, api.OK},
		{1, top, top, api.OK},
		{top, top, 0, api.ErrOver},
		{top, 1 << 23, 0, api.ErrOver},
		{top, 1<<23 - 1, 1<<63 - 1<<40, api.OK},
		{greatest, 1, greatest, api.OK},
		{greatest, 2, 0, api.ErrOver},
		{-1, 3, 0, api.ErrUnder},
		{3, -1, 0, api.ErrUnder},
		{-3, -5, 15, api.OK},
		{least, 1, 0, api.ErrUnder},
		{1, least, 0, api.ErrUnder},
		{least, -1, 0, api.ErrOver},
		{least, 2, 0, api.ErrOver},
	} {
		for _, state := range []int{0, api.Resting, api.Filled, api.Cancelled, api.Expired, -1} {
			for side, other := range map[int]bool{api.Buy: false, api.Sell: true, 0: true, 3: true, -1: true, 1 + 1<<32: true, math.MinInt: true} {
				o := api.Order{Side: side, Price: c.price, Size: 1000, Left: c.left, State: state}
				thing, n, e := order.Needs(o)
				what := fmt.Sprintf("%+v: %d, %d, %v", o, thing, n, e)
				if other {
					want(t, what, thing == api.Goods && n == c.left && e == api.OK, true)
				} else {
					want(t, what, thing == api.Cash && n == c.cash && e == c.fault, true)
				}
			}
		}
	}
	thing, n, e := order.Needs(sound())
	want(t, "what is left counts, not the size", thing == api.Cash && n == 30 && e == api.OK, true)
}

// TestOther: P20.2, of another number Buy.
func TestOther(t *testing.T) {
	for side, wanted := range map[int]int{api.Buy: api.Sell, api.Sell: api.Buy, 0: api.Buy, 3: api.Buy, -1: api.Buy, -2: api.Buy, 1 + 1<<32: api.Buy, math.MinInt: api.Buy, math.MaxInt: api.Buy} {
		want(t, fmt.Sprint("Other of ", side), order.Other(side), wanted)
	}
}

// TestBetterAndCrosses: P20.2, by how two prices stand; of other sides false.
func TestBetterAndCrosses(t *testing.T) {
	l := []int64{least, least + 1, -1, 0, 1, 2, 3, top, greatest - 1, greatest}
	for i, a := range l {
		for j, b := range l {
			what := fmt.Sprintf("%d and %d", a, b)
			want(t, "Better of a Buy: "+what, order.Better(api.Buy, a, b), i > j)
			want(t, "Better of a Sell: "+what, order.Better(api.Sell, a, b), i < j)
			want(t, "Crosses of a Buy: "+what, order.Crosses(api.Buy, a, b), i >= j)
			want(t, "Crosses of a Sell: "+what, order.Crosses(api.Sell, a, b), i <= j)
			for _, side := range []int{0, 3, -1, -2, 1 + 1<<32, 2 + 1<<32, math.MinInt, math.MaxInt} {
				want(t, fmt.Sprintf("Better of the side %d: %s", side, what), order.Better(side, a, b), false)
				want(t, fmt.Sprintf("Crosses of the side %d: %s", side, what), order.Crosses(side, a, b), false)
			}
		}
	}
	want(t, "a Buy at 3 meets a Sell at 2", order.Crosses(api.Buy, 3, 2), true)
	want(t, "a Sell at 3 doesn't meet a Buy at 2", order.Crosses(api.Sell, 3, 2), false)
}
