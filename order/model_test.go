package order_test

import (
	"fmt"
	"math/big"
	"testing"

	"bourse/api"
	"bourse/order"
)

// number: the one that bytes begin with, reckoned without an end, and what is behind it.
func number(s string) (*big.Int, string, api.Errno) {
	n := new(big.Int)
	for i := range len(s) {
		digit := big.NewInt(int64(s[i] % 128))
		n.Add(n, digit.Lsh(digit, uint(7*i)))
		if i == 9 && (s[i] > 127 || !n.IsUint64()) {
			return nil, "", api.ErrRange
		}
		if s[i] < 128 && s[i] == 0 && i > 0 {
			return nil, "", api.ErrForm
		}
		if s[i] < 128 {
			return n, s[i+1:], api.OK
		}
	}
	return nil, "", api.ErrShort
}

// signed: the number that twice a number, or twice it less one, is of.
func signed(n *big.Int) int64 {
	if n.Bit(0) == 0 {
		return new(big.Int).Rsh(n, 1).Int64()
	}
	return -new(big.Int).Rsh(n, 1).Int64() - 1
}

// read: all numbers that bytes are, by their forms: n any, k one that 31 bits hold, s signed (as if it stood by itself).
func read(s, forms string) ([]*big.Int, api.Errno) {
	var l []*big.Int
	for _, form := range forms {
		n, rest, e := number(s)
		if e != api.OK {
			return nil, e
		}
		if form == 'k' && n.BitLen() > 31 {
			return nil, api.ErrForm
		}
		if form == 's' {
			n = big.NewInt(signed(n))
		}
		l, s = append(l, n), rest
	}
	if s != "" {
		return nil, api.ErrForm
	}
	return l, api.OK
}

// may: Check, told once more.
func may(o api.Order) api.Errno {
	right := func(n int64) bool { return 1 <= n && n <= top }
	lefts := map[int]bool{api.Resting: o.Left > 0, api.Filled: o.Left == 0, api.Cancelled: true, api.Expired: true}
	for _, c := range []struct {
		ok    bool
		fault api.Errno
	}{
		{o.Account != 0 && o.ID != 0, api.ErrArg},
		{o.Side == 1 || o.Side == 2, api.ErrSide},
		{right(o.Price), api.ErrPrice},
		{right(o.Size), api.ErrSize},
		{0 <= o.Left && o.Left <= o.Size, api.ErrSize},
		{lefts[o.State], api.ErrKind},
	} {
		if !c.ok {
			return c.fault
		}
	}
	return api.OK
}

// parse: Parse, told once more.
func parse(id uint64, s string) (api.Order, api.Errno) {
	l, e := read(s, "nksssnnk")
	if e != api.OK {
		return api.Order{}, e
	}
	o := api.Order{ID: id, Account: l[0].Uint64(), Side: int(l[1].Int64()), Price: l[2].Int64(), Size: l[3].Int64(), Left: l[4].Int64(),
		Rank: l[5].Uint64(), Expiry: l[6].Uint64(), State: int(l[7].Int64())}
	if e := may(o); e != api.OK {
		return api.Order{}, e
	}
	return o, api.OK
}

// parseMoney: ParseMoney, told once more.
func parseMoney(s string) (api.Balance, api.Errno) {
	l, e := read(s, "ss")
	if e != api.OK {
		return api.Balance{}, e
	}
	if l[0].Sign() < 0 || l[1].Sign() < 0 {
		return api.Balance{}, api.ErrUnder
	}
	if !new(big.Int).Add(l[0], l[1]).IsInt64() {
		return api.Balance{}, api.ErrOver
	}
	return api.Balance{Free: l[0].Int64(), Held: l[1].Int64()}, api.OK
}

// dice: numbers that look like chance, the same each time.
type dice uint64

func (d *dice) next() uint64 {
	*d = *d*6364136223846793005 + 1442695040888963407
	n := uint64(*d)
	return n ^ n>>29
}

func (d *dice) below(n int) int { return int(d.next() >> 20 % uint64(n)) }

// number: of any length.
func (d *dice) number() uint64 { return d.next() >> d.below(64) }

// right: mostly one from 1 to the greatest, by its length; now and then beside that.
func (d *dice) right(greatest int64) int64 {
	if d.below(12) == 0 {
		return []int64{0, -1, greatest, greatest + 1}[d.below(4)]
	}
	return 1 + int64(d.next()>>1>>d.below(63))%greatest
}

// order: most may be.
func (d *dice) order() api.Order {
	o := api.Order{ID: d.number(), Account: d.number(), Side: 1 + d.below(2), Price: d.right(top), Size: d.right(top), Rank: d.number(), Expiry: d.number(), State: 1 + d.below(4)}
	o.Left = d.right(max(o.Size, 1))
	switch d.below(16) {
	case 0, 1:
		o.Left = 0
	case 2, 3:
		o.Left, o.State = 0, api.Filled
	case 4:
		o.Side = int(d.next())
	case 5:
		o.State = int(d.next() >> d.below(64))
	case 6:
		o.Side = d.below(4)
	case 7:
		o.State = d.below(6)
	}
	return o
}

// altered: bytes of which one is another, or not there, or there is one more.
func (d *dice) altered(s string) string {
	b := []byte(s)
	at := d.below(len(b))
	switch d.below(6) {
	case 0:
		return string(append(b[:at:at], b[at+1:]...))
	case 1:
		return s[:at] + string([]byte{byte(d.next())}) + s[at:]
	case 2:
		return s[:at] + "\x80" + s[at:]
	case 3:
		b[at] = byte(d.next())
	default:
		b[at] ^= 1 << d.below(8)
	}
	return string(b)
}

// balance: of any lengths, now and then below 0, or too much.
func (d *dice) balance() api.Balance {
	b := api.Balance{Free: int64(d.next() >> 1 >> d.below(63)), Held: int64(d.next() >> 1 >> d.below(63))}
	switch d.below(16) {
	case 0:
		b.Free = -b.Free
	case 1:
		b.Held = -b.Held - 1
	case 2:
		b.Held = greatest - b.Free + int64(d.below(2))
	}
	return b
}

// enough: errors that the dice should make each so many times.
func enough(t *testing.T, seen map[api.Errno]int, wanted ...api.Errno) {
	t.Helper()
	for _, e := range wanted {
		if seen[e] < 20 {
			t.Errorf("the dice made %v %d times alone", e, seen[e])
		}
	}
}

// TestOrdersModel: P20.1, P20.3, whatever order, whatever bytes.
func TestOrdersModel(t *testing.T) {
	d := dice(20)
	seen := map[api.Errno]int{}
	for range 60000 {
		o := d.order()
		want(t, fmt.Sprintf("Check of %+v", o), order.Check(o), may(o))
		s := order.Bytes(o)
		for range d.below(3) {
			s = d.altered(s)
		}
		wanted, fault := parse(o.ID, s)
		got, e := order.Parse(o.ID, s)
		what := fmt.Sprintf("Parse of %d, %x", o.ID, s)
		want(t, what, got, wanted)
		want(t, what+": the error", e, fault)
		if e == api.OK {
			same(t, what+": written again", order.Bytes(got), s)
		}
		if may(o) == api.OK {
			back, e := order.Parse(o.ID, order.Bytes(o))
			want(t, fmt.Sprintf("%+v: back", o), e == api.OK && back == o, true)
		}
		seen[e]++
		if t.Failed() {
			return
		}
	}
	enough(t, seen, api.OK, api.ErrShort, api.ErrForm, api.ErrRange, api.ErrArg, api.ErrSide, api.ErrPrice, api.ErrSize, api.ErrKind)
}

// TestMoneyModel: P20.1, P20.3, whatever balance, whatever bytes.
func TestMoneyModel(t *testing.T) {
	d := dice(21)
	seen := map[api.Errno]int{}
	for range 60000 {
		b := d.balance()
		s := order.Money(b)
		if order.Fits(b) == api.OK {
			back, e := order.ParseMoney(s)
			want(t, fmt.Sprintf("%+v: back", b), e == api.OK && back == b, true)
		}
		for range d.below(3) {
			s = d.altered(s)
		}
		wanted, fault := parseMoney(s)
		got, e := order.ParseMoney(s)
		what := fmt.Sprintf("ParseMoney of %x", s)
		want(t, what, got, wanted)
		want(t, what+": the error", e, fault)
		if e == api.OK {
			same(t, what+": written again", order.Money(got), s)
		}
		seen[e]++
		if t.Failed() {
			return
		}
	}
	enough(t, seen, api.OK, api.ErrShort, api.ErrForm, api.ErrRange, api.ErrUnder, api.ErrOver)
}
