package order_test

import (
	"fmt"
	"math"
	"testing"

	"bourse/api"
	"bourse/order"
)

const (
	nine  = "\xff\xff\xff\xff\xff\xff\xff\xff\xff"     // of a number's ten bytes
	bare  = "\x80\x80\x80\x80\x80\x80\x80\x80\x80"     // the same, without a bit
	small = "\xff\xff\xff\xff\x07"                     // 2^31 - 1
	great = "\x80\x80\x80\x80\x08"                     // 2^31
	start = "\x01\x01\x14\x08\x06"                     // account 1, a Buy at 10, of 4, 3 left
	whole = start + "\x02\x09\x01"                     // rank 2, until 9, Resting
	most  = "\x80\x80\x80\x80\x80\x40"                 // 2^40, signed
	half  = bare + "\x01"                              // 2^62, signed
	all   = "\xfe\xff\xff\xff\xff\xff\xff\xff\xff\x01" // 2^63 - 1, signed
)

// orders: those that may be, by their bytes. All have the number 5.
func orders() map[string]api.Order {
	return map[string]api.Order{
		whole:                                  sound(),
		"\x01\x02\x02\x02\x02\x00\x00\x01":     {ID: 5, Account: 1, Side: api.Sell, Price: 1, Size: 1, Left: 1, State: api.Resting},
		"\x01\x02\x02\x02\x00\x00\x00\x02":     {ID: 5, Account: 1, Side: api.Sell, Price: 1, Size: 1, State: api.Filled},
		"\x7f\x01\x02\x04\x00\x00\x00\x03":     {ID: 5, Account: 127, Side: api.Buy, Price: 1, Size: 2, State: api.Cancelled},
		"\x80\x01\x01\x02\x04\x04\x00\x00\x04": {ID: 5, Account: 128, Side: api.Buy, Price: 1, Size: 2, Left: 2, State: api.Expired},
		"\xac\x02\x01\xd8\x04\xd6\x04\xd4\x04\xac\x02\x80\x80\x01\x01": {ID: 5, Account: 300, Side: api.Buy, Price: 300, Size: 299, Left: 298, Rank: 300, Expiry: 1 << 14, State: api.Resting},
		nine + "\x01\x02" + most + most + most + nine + "\x01" + nine + "\x01\x01": {ID: 5, Account: math.MaxUint64, Side: api.Sell, Price: top, Size: top, Left: top,
			Rank: math.MaxUint64, Expiry: math.MaxUint64, State: api.Resting},
	}
}

// TestOrdersBytes: P20.1, P20.3, both ways, all bytes.
func TestOrdersBytes(t *testing.T) {
	for s, o := range orders() {
		what := fmt.Sprintf("%x", s)
		want(t, what+": Check", order.Check(o), api.OK)
		same(t, what+": Bytes", order.Bytes(o), s)
		got, e := order.Parse(5, s)
		want(t, what+": Parse", got, o)
		want(t, what+": Parse's error", e, api.OK)
	}
}

// TestNumberInKey: an order's number stands in its key, not in its bytes.
func TestNumberInKey(t *testing.T) {
	for _, id := range []uint64{1, 5, 300, 1 << 63, math.MaxUint64} {
		o := but(func(o *api.Order) { o.ID = id })
		same(t, "Bytes", order.Bytes(o), whole)
		got, e := order.Parse(id, whole)
		want(t, "Parse", got, o)
		want(t, "Parse's error", e, api.OK)
	}
	parsed(t, "the number 0", 0, whole, api.ErrArg)
	parsed(t, "the number 0, and no bytes", 0, "", api.ErrShort)
}

// TestBytesOfAny: P20.1, Bytes of what may not be: a side or a state below 0 is as it and 2^64, prices and sizes are signed.
func TestBytesOfAny(t *testing.T) {
	const none = "\x00\x00\x00\x00\x00" // five numbers
	for _, c := range []struct {
		o api.Order
		s string
	}{
		{api.Order{}, none + "\x00\x00\x00"},
		{api.Order{ID: 7}, none + "\x00\x00\x00"},
		{api.Order{Account: 1, Side: 2, Price: 3, Size: 4, Left: 5, Rank: 6, Expiry: 7, State: 8}, "\x01\x02\x06\x08\x0a\x06\x07\x08"},
		{api.Order{Side: -1, State: -1}, "\x00" + nine + "\x01" + none + nine + "\x01"},
		{api.Order{Side: -2, State: -3}, "\x00\xfe" + nine[1:] + "\x01" + none + "\xfd" + nine[1:] + "\x01"},
		{api.Order{Side: math.MinInt, State: math.MaxInt}, "\x00" + bare + "\x01" + none + nine[1:] + "\x7f"},
		{api.Order{Side: 1 << 31, State: 1<<31 - 1}, "\x00" + great + none + small},
		{api.Order{Side: 1 << 32, State: 1 + 1<<32}, "\x00\x80\x80\x80\x80\x10" + none + "\x81\x80\x80\x80\x10"},
		{api.Order{Price: -1, Size: -2, Left: -3}, "\x00\x00\x01\x03\x05\x00\x00\x00"},
		{api.Order{Price: least, Size: greatest, Left: least}, "\x00\x00" + nine + "\x01\xfe" + nine[1:] + "\x01" + nine + "\x01\x00\x00\x00"},
	} {
		same(t, fmt.Sprintf("%+v", c.o), order.Bytes(c.o), c.s)
	}
}

// parsed: Parse's answer; beside an error no order.
func parsed(t *testing.T, what string, id uint64, s string, wanted api.Errno) {
	t.Helper()
	o, e := order.Parse(id, s)
	want(t, what, e, wanted)
	if e != api.OK {
		want(t, what+": beside an error", o, api.Order{})
		return
	}
	want(t, what+": Check", order.Check(o), api.OK)
	want(t, what+": the number", o.ID, id)
	same(t, what+": written again", order.Bytes(o), s)
}

// TestParseErrors: P20.1, by hand, and which one comes first.
func TestParseErrors(t *testing.T) {
	const behind = "\x14\x08\x06\x02\x09\x01" // whole's, behind its side
	const ahead = start + "\x02\x09"          // whole's, ahead of its state
	for _, c := range []struct {
		what, s string
		want    api.Errno
	}{
		{"nothing", "", api.ErrShort},
		{"half an account", "\x80", api.ErrShort},
		{"an account in two bytes, where one would do", "\x81\x00\x01" + behind, api.ErrForm},
		{"an account above all", nine + "\x02\x01" + behind, api.ErrRange},
		{"a price in two bytes, where one would do", "\x01\x01\x94\x00\x08\x06\x02\x09\x01", api.ErrForm},
		{"a price above all", "\x01\x01" + nine + "\x02\x08\x06\x02\x09\x01", api.ErrRange},
		{"a size in two bytes, where one would do", "\x01\x01\x14\x88\x00\x06\x02\x09\x01", api.ErrForm},
		{"what is left above all", "\x01\x01\x14\x08" + nine + "\x7f\x02\x09\x01", api.ErrRange},
		{"a rank in two bytes, where one would do", start + "\x82\x00\x09\x01", api.ErrForm},
		{"a rank above all", start + nine + "\x02\x09\x01", api.ErrRange},
		{"an expiry above all", start + "\x02" + nine + "\x02\x01", api.ErrRange},
		{"a state in two bytes, where one would do", ahead + "\x81\x00", api.ErrForm},
		{"a state above all", ahead + nine + "\x02", api.ErrRange},
		{"a state that is cut", ahead + "\x81", api.ErrShort},
		{"more behind it", whole + "\x00", api.ErrForm},
		{"twice", whole + whole, api.ErrForm},

		{"the side 2^31 - 1", "\x01" + small + behind, api.ErrSide},
		{"the side 2^31", "\x01" + great + behind, api.ErrForm},
		{"the side 2^31, known at once", "\x01" + great, api.ErrForm},
		{"the side 2^31, and a price above all", "\x01" + great + nine + "\x02", api.ErrForm},
		{"an account above all, and the side 2^31", nine + "\x02" + great + behind, api.ErrRange},
		{"the side 2^32 + 1", "\x01\x81\x80\x80\x80\x10" + behind, api.ErrForm},
		{"the side 2^63", "\x01\x80\x80\x80\x80\x80\x80\x80\x80\x80\x01" + behind, api.ErrForm},
		{"the side -1, as it is written", "\x01" + nine + "\x01" + behind, api.ErrForm},
		{"a side above all", "\x01" + nine + "\x02" + behind, api.ErrRange},
		{"the state 2^31 - 1", ahead + small, api.ErrKind},
		{"the state 2^31", ahead + great, api.ErrForm},
		{"the state 2^31, and more behind it", ahead + great + "\x00", api.ErrForm},
		{"the state 2^32 + 1", ahead + "\x81\x80\x80\x80\x10", api.ErrForm},
		{"the state 2^63 + 1", ahead + "\x81\x80\x80\x80\x80\x80\x80\x80\x80\x01", api.ErrForm},
		{"the state -1, as it is written", ahead + nine + "\x01", api.ErrForm},

		{"the account 0", "\x00\x01" + behind, api.ErrArg},
		{"the account 0, the side 0", "\x00\x00" + behind, api.ErrArg},
		{"the account 0, and more behind it", "\x00\x01" + behind + "\x00", api.ErrForm},
		{"the account 0, the state 2^31", "\x00\x01\x14\x08\x06\x02\x09" + great, api.ErrForm},
		{"the account 0, the state lacks", "\x00\x01\x14\x08\x06\x02\x09", api.ErrShort},
		{"the side 0", "\x01\x00" + behind, api.ErrSide},
		{"the side 3", "\x01\x03" + behind, api.ErrSide},
		{"the side 3, the price 0", "\x01\x03\x00\x08\x06\x02\x09\x01", api.ErrSide},
		{"the price 0", "\x01\x01\x00\x08\x06\x02\x09\x01", api.ErrPrice},
		{"the price -1", "\x01\x01\x01\x08\x06\x02\x09\x01", api.ErrPrice},
		{"the price 2^40", "\x01\x01" + most + "\x08\x06\x02\x09\x01", api.OK},
		{"the price 2^40 + 1", "\x01\x01\x82" + most[1:] + "\x08\x06\x02\x09\x01", api.ErrPrice},
		{"the size 0", "\x01\x01\x14\x00\x00\x02\x09\x01", api.ErrSize},
		{"the size -1", "\x01\x01\x14\x01\x00\x02\x09\x01", api.ErrSize},
		{"the size 2^40", "\x01\x01\x14" + most + "\x06\x02\x09\x01", api.OK},
		{"the size 2^40 + 1", "\x01\x01\x14\x82" + most[1:] + "\x06\x02\x09\x01", api.ErrSize},
		{"all left", "\x01\x01\x14\x08\x08\x02\x09\x01", api.OK},
		{"more left than its size", "\x01\x01\x14\x08\x0a\x02\x09\x01", api.ErrSize},
		{"-1 left", "\x01\x01\x14\x08\x01\x02\x09\x01", api.ErrSize},
		{"the state 0", ahead + "\x00", api.ErrKind},
		{"the state 5", ahead + "\x05", api.ErrKind},
		{"Filled, with something left", ahead + "\x02", api.ErrKind},
		{"Cancelled", ahead + "\x03", api.OK},
		{"Expired", ahead + "\x04", api.OK},
		{"Resting, with nothing left", "\x01\x01\x14\x08\x00\x02\x09\x01", api.ErrKind},
		{"Filled", "\x01\x01\x14\x08\x00\x02\x09\x02", api.OK},
		{"-1 left, the state 0", "\x01\x01\x14\x08\x01\x02\x09\x00", api.ErrSize},
	} {
		parsed(t, c.what, 5, c.s, c.want)
	}
	for s := range orders() {
		for end := range len(s) {
			parsed(t, fmt.Sprintf("%x, cut at %d", s, end), 5, s[:end], api.ErrShort)
		}
		parsed(t, fmt.Sprintf("%x, and more", s), 5, s+"\x00", api.ErrForm)
	}
}

// TestMoney: P20.1, P20.3, a balance's bytes, both ways.
func TestMoney(t *testing.T) {
	for _, c := range []struct {
		b api.Balance
		s string
	}{
		{api.Balance{}, "\x00\x00"},
		{api.Balance{Free: 1, Held: 2}, "\x02\x04"},
		{api.Balance{Held: 1}, "\x00\x02"},
		{api.Balance{Free: 1}, "\x02\x00"},
		{api.Balance{Free: 63, Held: 64}, "\x7e\x80\x01"},
		{api.Balance{Free: 300, Held: 10}, "\xd8\x04\x14"},
		{api.Balance{Free: greatest}, all + "\x00"},
		{api.Balance{Held: greatest}, "\x00" + all},
		{api.Balance{Free: 1<<62 - 1, Held: 1 << 62}, "\xfe" + nine[:7] + "\x7f" + half},
	} {
		what := fmt.Sprintf("%+v", c.b)
		want(t, what+": Fits", order.Fits(c.b), api.OK)
		same(t, what+": Money", order.Money(c.b), c.s)
		got, e := order.ParseMoney(c.s)
		want(t, what+": ParseMoney", got, c.b)
		want(t, what+": ParseMoney's error", e, api.OK)
		for end := range len(c.s) {
			money(t, fmt.Sprintf("%s, cut at %d", what, end), c.s[:end], api.ErrShort)
		}
		money(t, what+", and more", c.s+"\x00", api.ErrForm)
	}
	same(t, "Money of what may not be", order.Money(api.Balance{Free: -1, Held: -2}), "\x01\x03")
	same(t, "Money of the least", order.Money(api.Balance{Free: least, Held: least}), nine+"\x01"+nine+"\x01")
	same(t, "Money of too much", order.Money(api.Balance{Free: greatest, Held: greatest}), all+all)
}

// money: ParseMoney's answer; beside an error no balance.
func money(t *testing.T, what, s string, wanted api.Errno) {
	t.Helper()
	b, e := order.ParseMoney(s)
	want(t, what, e, wanted)
	if e != api.OK {
		want(t, what+": beside an error", b, api.Balance{})
		return
	}
	want(t, what+": Fits", order.Fits(b), api.OK)
	same(t, what+": written again", order.Money(b), s)
}

// TestMoneyErrors: P20.1, the reader's errors, then those of Fits.
func TestMoneyErrors(t *testing.T) {
	for _, c := range []struct {
		what, s string
		want    api.Errno
	}{
		{"free in two bytes, where one would do", "\x82\x00\x04", api.ErrForm},
		{"held in two bytes, where one would do", "\x02\x84\x00", api.ErrForm},
		{"free above all", nine + "\x02\x04", api.ErrRange},
		{"held above all", "\x02" + nine + "\x02", api.ErrRange},
		{"free -1", "\x01\x04", api.ErrUnder},
		{"held -1", "\x02\x01", api.ErrUnder},
		{"both -1", "\x01\x01", api.ErrUnder},
		{"free -1, and more", "\x01\x04\x00", api.ErrForm},
		{"free -1, held lacks", "\x01", api.ErrShort},
		{"free -1, held above all", "\x01" + nine + "\x02", api.ErrRange},
		{"free the least", nine + "\x01\x00", api.ErrUnder},
		{"both the half", half + half, api.ErrOver},
		{"both the half, and more", half + half + "\x00", api.ErrForm},
		{"the greatest, and 1", all + "\x02", api.ErrOver},
		{"1, and the greatest", "\x02" + all, api.ErrOver},
		{"the greatest, and -1", all + "\x01", api.ErrUnder},
		{"both the greatest", all + all, api.ErrOver},
	} {
		money(t, c.what, c.s, c.want)
	}
}
