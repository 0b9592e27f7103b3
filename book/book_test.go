package book_test

import (
	"cmp"
	"encoding/binary"
	"fmt"
	"iter"
	"math"
	"slices"
	"strings"
	"testing"

	"bourse/api"
	"bourse/book"
	"bourse/overlay"
)

// want: a test fails, if something is another thing than was wanted.
func want[T comparable](t *testing.T, what string, got, wanted T) {
	t.Helper()
	if got != wanted {
		t.Errorf("%s: %+v, wanted %+v", what, got, wanted)
	}
}

// list: as want, of lists.
func list[T comparable](t *testing.T, what string, got, wanted []T) {
	t.Helper()
	if !slices.Equal(got, wanted) {
		t.Errorf("%s: %+v, wanted %+v", what, got, wanted)
	}
}

// all: the pairs that there are.
func all(r overlay.Reader) []api.Pair { return slices.Collect(r.Range("", "")) }

// laid: a number's bytes, told once more.
func laid(l ...uint64) string {
	s := ""
	for _, n := range l {
		s += string(binary.AppendUvarint(nil, n))
	}
	return s
}

// eight: a number in eight bytes, the highest first; a signed one has half of all added.
func eight(n uint64) string { return string(binary.BigEndian.AppendUint64(nil, n)) }

const half = 1 << 63

// orderKey: where an order stands.
func orderKey(id uint64) string { return "to\x00\x00u" + eight(id) }

// placeKey: where one rests.
func placeKey(x api.Order) string {
	price := "i" + eight(half+uint64(x.Price))
	if x.Side == api.Buy {
		price = "d" + eight(^(half + uint64(x.Price)))
	}
	return "tb\x00\x00i" + eight(half+uint64(x.Side)) + price + "u" + eight(x.Rank) + "u" + eight(x.ID)
}

// expiryKey: where it expires.
func expiryKey(at, id uint64) string { return "te\x00\x00u" + eight(at) + "u" + eight(id) }

// bytes: an order's.
func bytes(x api.Order) string {
	return laid(x.Account, uint64(x.Side), 2*uint64(x.Price), 2*uint64(x.Size), 2*uint64(x.Left), x.Rank, x.Expiry, uint64(x.State))
}

// pairs: of orders all that stands.
func pairs(orders ...api.Order) []api.Pair {
	var l []api.Pair
	for _, x := range orders {
		l = append(l, api.Pair{Key: orderKey(x.ID), Value: bytes(x)})
		if x.State == api.Resting {
			l = append(l, api.Pair{Key: placeKey(x)})
		}
		if x.State == api.Resting && x.Expiry != 0 {
			l = append(l, api.Pair{Key: expiryKey(x.Expiry, x.ID)})
		}
	}
	slices.SortFunc(l, func(a, b api.Pair) int { return cmp.Compare(a.Key, b.Key) })
	return l
}

// sound: an order that rests.
func sound() api.Order {
	return api.Order{ID: 5, Account: 1, Side: api.Buy, Price: 10, Size: 4, Left: 3, Rank: 2, Expiry: 9, State: api.Resting}
}

// but: an order, with a change.
func but(change func(*api.Order)) api.Order {
	x := sound()
	change(&x)
	return x
}

// rests: one of a side, with all that counts.
func rests(side int, price int64, rank, id uint64, left int64) api.Order {
	return api.Order{ID: id, Account: 7, Side: side, Price: price, Size: left, Left: left, Rank: rank, State: api.Resting}
}

// put: orders, which must be.
func put(t *testing.T, orders ...api.Order) *overlay.Overlay {
	t.Helper()
	o := overlay.Over(nil)
	for _, x := range orders {
		want(t, fmt.Sprintf("Put of %+v", x), book.Put(o, x), api.OK)
	}
	return o
}

// told is what a row tells at once.
type told struct {
	x api.Order
	e api.Errno
}

// gone: all that a row tells.
func gone(r iter.Seq2[api.Order, api.Errno]) []told {
	var l []told
	for x, e := range r {
		l = append(l, told{x, e})
	}
	return l
}

// fine: orders without an error.
func fine(orders ...api.Order) []told {
	var l []told
	for _, x := range orders {
		l = append(l, told{x, api.OK})
	}
	return l
}

// TestWhatStands: P24.1, the words, by hand: an order, its place, its expiry.
func TestWhatStands(t *testing.T) {
	const (
		buys  = "tb\x00\x00i\x80\x00\x00\x00\x00\x00\x00\x01d\x7f\xff\xff\xff\xff\xff\xff\xf5u\x00\x00\x00\x00\x00\x00\x00\x02u\x00\x00\x00\x00\x00\x00\x00\x05"
		sells = "tb\x00\x00i\x80\x00\x00\x00\x00\x00\x00\x02i\x80\x00\x00\x00\x00\x00\x00\x0au\x00\x00\x00\x00\x00\x00\x00\x02u\x00\x00\x00\x00\x00\x00\x00\x05"
		dues  = "te\x00\x00u\x00\x00\x00\x00\x00\x00\x00\x09u\x00\x00\x00\x00\x00\x00\x00\x05"
		own   = "to\x00\x00u\x00\x00\x00\x00\x00\x00\x00\x05"
	)
	o := put(t, sound())
	list(t, "a Buy with an expiry", all(o), []api.Pair{{Key: buys}, {Key: dues}, {Key: own, Value: "\x01\x01\x14\x08\x06\x02\x09\x01"}})
	x := but(func(x *api.Order) { x.Side, x.Expiry = api.Sell, 0 })
	want(t, "Put", book.Put(o, x), api.OK)
	list(t, "a Sell without one", all(o), []api.Pair{{Key: sells}, {Key: own, Value: "\x01\x02\x14\x08\x06\x02\x00\x01"}})
	x.State = api.Cancelled
	want(t, "Put", book.Put(o, x), api.OK)
	list(t, "one that is cancelled", all(o), []api.Pair{{Key: own, Value: "\x01\x02\x14\x08\x06\x02\x00\x03"}})
}

// states: the same order in many ways.
func states() []api.Order {
	l := []api.Order{sound()}
	for _, change := range []func(*api.Order){
		func(x *api.Order) { x.Expiry = 0 },
		func(x *api.Order) { x.Expiry = 10 },
		func(x *api.Order) { x.Expiry = 1 << 40 },
		func(x *api.Order) { x.Expiry = math.MaxUint64 },
		func(x *api.Order) { x.Price = 11 },
		func(x *api.Order) { x.Price = 1 << 40 },
		func(x *api.Order) { x.Rank = 3 },
		func(x *api.Order) { x.Rank = 0 },
		func(x *api.Order) { x.Rank = math.MaxUint64 },
		func(x *api.Order) { x.Side = api.Sell },
		func(x *api.Order) { x.Side, x.Expiry = api.Sell, 0 },
		func(x *api.Order) { x.Account = 2 },
		func(x *api.Order) { x.Account = math.MaxUint64 },
		func(x *api.Order) { x.Size, x.Left = 9, 9 },
		func(x *api.Order) { x.Left = 1 },
		func(x *api.Order) { x.Left, x.State = 0, api.Filled },
		func(x *api.Order) { x.Left, x.State, x.Expiry = 0, api.Filled, 0 },
		func(x *api.Order) { x.State = api.Cancelled },
		func(x *api.Order) { x.State, x.Expiry = api.Cancelled, 0 },
		func(x *api.Order) { x.State, x.Left = api.Cancelled, 0 },
		func(x *api.Order) { x.State = api.Expired },
		func(x *api.Order) { x.State, x.Side, x.Price, x.Rank = api.Expired, api.Sell, 99, 99 },
	} {
		l = append(l, but(change))
	}
	return l
}

// TestPutBehindPut: P24.1, P24.4, whatever it was: its place and its expiry are gone, and those of what it is are there; others stay.
func TestPutBehindPut(t *testing.T) {
	other := but(func(x *api.Order) { x.ID = 6 })
	more := but(func(x *api.Order) { x.ID, x.Side, x.Expiry = 4, api.Sell, 9 })
	for _, was := range states() {
		for _, is := range states() {
			what := fmt.Sprintf("%+v behind %+v", is, was)
			o := put(t, was, other, more)
			list(t, what+": ahead", all(o), pairs(was, other, more))
			s := overlay.New(all(o)...)
			o = overlay.Over(s)
			want(t, what, book.Put(o, is), api.OK)
			list(t, what, all(o), pairs(is, other, more))
			list(t, what+": below", all(s), pairs(was, other, more))
			x, there, e := book.Get(o, 5)
			want(t, what+": Get", x == is && there && e == api.OK, true)
			if was == is {
				want(t, what+": changes", len(o.Changes()), 0)
			}
		}
	}
}

// TestPutErrors: P24.1, Check's error, whatever there was, and nothing is changed.
func TestPutErrors(t *testing.T) {
	for _, c := range []struct {
		fault  api.Errno
		change func(*api.Order)
	}{
		{api.ErrArg, func(x *api.Order) { x.ID = 0 }},
		{api.ErrArg, func(x *api.Order) { x.Account = 0 }},
		{api.ErrArg, func(x *api.Order) { *x = api.Order{} }},
		{api.ErrSide, func(x *api.Order) { x.Side = 0 }},
		{api.ErrSide, func(x *api.Order) { x.Side = 3 }},
		{api.ErrSide, func(x *api.Order) { x.Side = 1 + 1<<32 }},
		{api.ErrPrice, func(x *api.Order) { x.Price = 0 }},
		{api.ErrPrice, func(x *api.Order) { x.Price = 1<<40 + 1 }},
		{api.ErrSize, func(x *api.Order) { x.Size = 0 }},
		{api.ErrSize, func(x *api.Order) { x.Size = 1<<40 + 1 }},
		{api.ErrSize, func(x *api.Order) { x.Left = 5 }},
		{api.ErrSize, func(x *api.Order) { x.Left = -1 }},
		{api.ErrKind, func(x *api.Order) { x.Left = 0 }},
		{api.ErrKind, func(x *api.Order) { x.State = 0 }},
		{api.ErrKind, func(x *api.Order) { x.State = 5 }},
		{api.ErrKind, func(x *api.Order) { x.State = api.Filled }},
	} {
		wrong := but(c.change)
		broken := []api.Pair{{Key: orderKey(5), Value: "\x80"}, {Key: orderKey(0)}}
		for _, ahead := range [][]api.Pair{nil, pairs(sound()), broken} {
			what := fmt.Sprintf("%+v over %q", wrong, ahead)
			o := overlay.Over(overlay.New(ahead...))
			o.Put("a", "1")
			want(t, what, book.Put(o, wrong), c.fault)
			want(t, what+": Mark", o.Mark(), 1)
			list(t, what, all(o), all(overlay.New(append(ahead[:len(ahead):len(ahead)], api.Pair{Key: "a", Value: "1"})...)))
		}
	}
}

// ordersBroken: layer 20's errors, with bytes that have them.
func ordersBroken() map[string]api.Errno {
	x := sound()
	return map[string]api.Errno{
		"":                                    api.ErrShort,
		bytes(x)[:7]:                          api.ErrShort,
		bytes(x) + "\x00":                     api.ErrForm,
		"\x81\x00" + bytes(x)[1:]:             api.ErrForm,
		laid(1, 1<<31, 20, 8, 6, 2, 9, 1):     api.ErrForm,
		strings.Repeat("\xff", 10) + bytes(x): api.ErrRange,
		bytes(but(func(x *api.Order) { x.Account = 0 })):       api.ErrArg,
		bytes(but(func(x *api.Order) { x.Side = 3 })):          api.ErrSide,
		bytes(but(func(x *api.Order) { x.Price = 1<<40 + 1 })): api.ErrPrice,
		bytes(but(func(x *api.Order) { x.Left = 5 })):          api.ErrSize,
		bytes(but(func(x *api.Order) { x.Left = 0 })):          api.ErrKind,
	}
}

// TestBrokenOrder: P24.1, the error of the one that was there, and nothing is changed; P24.2, of the one that stands so.
func TestBrokenOrder(t *testing.T) {
	for value, fault := range ordersBroken() {
		what := fmt.Sprintf("of %x", value)
		s := overlay.New(append(pairs(sound()), api.Pair{Key: orderKey(5), Value: value})...)
		for _, x := range states() {
			o := overlay.Over(s)
			want(t, "Put over one "+what, book.Put(o, x), fault)
			want(t, "Put over one "+what+": Mark", o.Mark(), 0)
		}
		o := overlay.Over(s)
		want(t, "Put of another one", book.Put(o, but(func(x *api.Order) { x.ID = 6 })), api.OK)
		x, there, e := book.Get(s, 5)
		want(t, "Get "+what, x == api.Order{} && !there && e == fault, true)
		for name, row := range map[string]iter.Seq2[api.Order, api.Errno]{"Side": book.Side(o, api.Buy), "Due": book.Due(o, 9), "All": book.All(o)} {
			list(t, name+" "+what, gone(row), []told{{e: fault}})
		}
		price, ok, e := book.Best(o, api.Buy)
		want(t, "Best "+what, price == 0 && !ok && e == fault, true)
		l, e := book.Depth(o, api.Buy, 5)
		want(t, "Depth "+what, l == nil && e == fault, true)
	}
}

// TestGet: P24.1, of the number alone, whatever its state.
func TestGet(t *testing.T) {
	var l []api.Order
	for i, x := range states() {
		x.ID = []uint64{4, 10, 256, 1 << 32, 1 << 63, math.MaxUint64}[i%6] - uint64(i/6)
		l = append(l, x)
	}
	o := put(t, l...)
	for _, x := range l {
		got, there, e := book.Get(o, x.ID)
		want(t, fmt.Sprintf("Get of %+v", x), got == x && there && e == api.OK, true)
	}
	for _, id := range []uint64{0, 5, 11, 257, 1<<32 + 4, 1<<63 + 1, math.MaxUint64 - 4} {
		x, there, e := book.Get(o, id)
		want(t, fmt.Sprint("Get of ", id), x == api.Order{} && !there && e == api.OK, true)
	}
}

// TestNilOverlay: P1, of a nil overlay there is nothing, and nothing is kept.
func TestNilOverlay(t *testing.T) {
	var o *overlay.Overlay
	want(t, "Put", book.Put(o, sound()), api.OK)
	want(t, "Put of what may not be", book.Put(o, api.Order{}), api.ErrArg)
	x, there, e := book.Get(o, 5)
	want(t, "Get", x == api.Order{} && !there && e == api.OK, true)
	want(t, "rows", len(gone(book.All(o)))+len(gone(book.Side(o, api.Buy)))+len(gone(book.Due(o, 9))), 0)
	price, ok, e := book.Best(o, api.Buy)
	want(t, "Best", price == 0 && !ok && e == api.OK, true)
	l, e := book.Depth(o, api.Buy, 5)
	want(t, "Depth", len(l) == 0 && e == api.OK, true)
}
