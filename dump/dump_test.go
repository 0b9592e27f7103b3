package dump_test

import (
	"cmp"
	"encoding/binary"
	"fmt"
	"math"
	"slices"
	"testing"

	"bourse/api"
	"bourse/dump"
	"bourse/overlay"
)

const (
	greatest = math.MaxInt64
	end      = math.MaxUint64
	half     = 1 << 63
	top      = 1 << 40 // the greatest price, the greatest size
)

// want: a test fails, if something is another thing than was wanted.
func want[T comparable](t *testing.T, what string, got, wanted T) {
	t.Helper()
	if got != wanted {
		t.Errorf("%s: %+v, wanted %+v", what, got, wanted)
	}
}

// alike: as want, of dumps; told once more, apart from Same.
func alike(t *testing.T, what string, got, wanted dump.Dump) {
	t.Helper()
	if got.Clock != wanted.Clock || got.IDs != wanted.IDs || got.Ranks != wanted.Ranks || got.Net != wanted.Net ||
		!slices.Equal(got.Accounts, wanted.Accounts) || !slices.Equal(got.Orders, wanted.Orders) {
		t.Errorf("%s: %+v, wanted %+v", what, got, wanted)
	}
}

// listed: as want, of pairs.
func listed(t *testing.T, what string, got, wanted []api.Pair) {
	t.Helper()
	if !slices.Equal(got, wanted) {
		t.Errorf("%s: %q, wanted %q", what, got, wanted)
	}
}

// all: the pairs that there are.
func all(r overlay.Reader) []api.Pair { return slices.Collect(r.Range("", "")) }

// laid: numbers' bytes, told once more.
func laid(l ...uint64) string {
	s := ""
	for _, n := range l {
		s += string(binary.AppendUvarint(nil, n))
	}
	return s
}

// signed: signed numbers' bytes.
func signed(l ...int64) string {
	s := ""
	for _, n := range l {
		s += string(binary.AppendVarint(nil, n))
	}
	return s
}

// text: a text's bytes.
func text(s string) string { return laid(uint64(len(s))) + s }

// eight: a number in eight bytes, the highest first.
func eight(n uint64) string { return string(binary.BigEndian.AppendUint64(nil, n)) }

// named: a number's key.
func named(name string) string { return "tn\x00\x00t" + name + "\x00\x00" }

// balanceKey: where a balance stands.
func balanceKey(account uint64, thing int) string {
	return "ta\x00\x00u" + eight(account) + "i" + eight(half+uint64(thing))
}

// orderKey: where an order stands.
func orderKey(id uint64) string { return "to\x00\x00u" + eight(id) }

// placeKey: where one rests.
func placeKey(x api.Order) string {
	price := "i" + eight(half+uint64(x.Price))
	if x.Side == api.Buy {
		price = "d" + eight(^(half + uint64(x.Price)))
	}
	return "tb\x00\x00i" + eight(half+uint64(x.Side)) + price + "u" + eight(x.Rank) + "u" + eight(x.ID)
}

// expiryKey: where it expires.
func expiryKey(x api.Order) string { return "te\x00\x00u" + eight(x.Expiry) + "u" + eight(x.ID) }

// orderBytes: an order's.
func orderBytes(x api.Order) string {
	return laid(x.Account, uint64(x.Side)) + signed(x.Price, x.Size, x.Left) + laid(x.Rank, x.Expiry, uint64(x.State))
}

// moneyBytes: a balance's.
func moneyBytes(b api.Balance) string { return signed(b.Free, b.Held) }

// numbersOf: a dump's, by their names.
func numbersOf(d dump.Dump) map[string]uint64 {
	return map[string]uint64{"clock": d.Clock, "id": d.IDs, "rank": d.Ranks, "net1": d.Net[0], "net2": d.Net[1]}
}

// pairs: all that stands of a dump.
func pairs(d dump.Dump) []api.Pair {
	var l []api.Pair
	for name, n := range numbersOf(d) {
		if n != 0 {
			l = append(l, api.Pair{Key: named(name), Value: laid(n)})
		}
	}
	for _, a := range d.Accounts {
		l = append(l, api.Pair{Key: balanceKey(a.ID, a.Thing), Value: moneyBytes(a.Money)})
	}
	for _, x := range d.Orders {
		l = append(l, api.Pair{Key: orderKey(x.ID), Value: orderBytes(x)})
		if x.State == api.Resting {
			l = append(l, api.Pair{Key: placeKey(x)})
		}
		if x.State == api.Resting && x.Expiry != 0 {
			l = append(l, api.Pair{Key: expiryKey(x)})
		}
	}
	slices.SortFunc(l, func(a, b api.Pair) int { return cmp.Compare(a.Key, b.Key) })
	return l
}

// sound: a dump as it is told: all in order.
func sound() dump.Dump {
	return dump.Dump{
		Clock: 5, IDs: 300, Ranks: 9, Net: [2]uint64{1000, end},
		Accounts: []dump.Account{
			{ID: 1, Thing: api.Cash, Money: api.Balance{Free: 1, Held: 30}},
			{ID: 1, Thing: api.Goods, Money: api.Balance{Held: 7}},
			{ID: 255, Thing: api.Goods, Money: api.Balance{Free: greatest}},
			{ID: 256, Thing: api.Cash, Money: api.Balance{Free: 1 << 62, Held: 1<<62 - 1}},
			{ID: end, Thing: api.Cash, Money: api.Balance{Free: 1}},
		},
		Orders: []api.Order{
			{ID: 1, Account: 1, Side: api.Buy, Price: 10, Size: 4, Left: 3, Rank: 2, Expiry: 9, State: api.Resting},
			{ID: 2, Account: 2, Side: api.Sell, Price: 10, Size: 4, Rank: 3, State: api.Filled},
			{ID: 255, Account: 3, Side: api.Sell, Price: top, Size: top, Left: top, Rank: end, State: api.Resting},
			{ID: 256, Account: end, Side: api.Buy, Price: 1, Size: 2, Left: 1, Expiry: end, State: api.Cancelled},
			{ID: end, Account: 1, Side: api.Buy, Price: 1, Size: 2, Left: 2, State: api.Expired},
		},
	}
}

// but: a dump, with a change.
func but(change func(*dump.Dump)) dump.Dump {
	d := sound()
	change(&d)
	return d
}

// told: Of of pairs, which stay; beside an error there is no dump.
func told(t *testing.T, what string, l []api.Pair, wanted dump.Dump, fault api.Errno) {
	t.Helper()
	s := overlay.New(l...)
	d, e := dump.Of(s)
	want(t, what+": error", e, fault)
	alike(t, what, d, wanted)
	listed(t, what+": below", all(s), all(overlay.New(l...)))
}

// TestOfNothing: P29.1.
func TestOfNothing(t *testing.T) {
	told(t, "nothing", nil, dump.Dump{}, api.OK)
	for what, r := range map[string]overlay.Reader{"over nothing": overlay.Over(nil), "nil": (*overlay.Overlay)(nil), "no shelf": (*overlay.Shelf)(nil)} {
		d, e := dump.Of(r)
		want(t, what, e, api.OK)
		alike(t, what, d, dump.Dump{})
	}
}

// TestOf: P29.1, all parts, in order; through an overlay, too.
func TestOf(t *testing.T) {
	told(t, "sound", pairs(sound()), sound(), api.OK)
	o := overlay.Over(overlay.New(pairs(sound())...))
	o.Delete(named("id"))
	o.Put(named("rank"), "\x00")
	o.Delete(balanceKey(1, 1))
	o.Put(balanceKey(3, 2), "\x02\x04")
	o.Delete(orderKey(1))
	d, e := dump.Of(o)
	want(t, "changed", e, api.OK)
	alike(t, "changed", d, but(func(d *dump.Dump) {
		d.IDs, d.Ranks, d.Orders = 0, 0, d.Orders[1:]
		d.Accounts[0] = dump.Account{ID: 1, Thing: 2, Money: api.Balance{Held: 7}}
		d.Accounts[1] = dump.Account{ID: 3, Thing: 2, Money: api.Balance{Free: 1, Held: 2}}
	}))
}

// TestOfNumbers: P29.1, each where it belongs, up to its end.
func TestOfNumbers(t *testing.T) {
	for _, n := range []uint64{0, 1, 127, 128, 1 << 56, 1<<63 - 1, 1 << 63, end} {
		for name, d := range map[string]dump.Dump{"clock": {Clock: n}, "id": {IDs: n}, "rank": {Ranks: n}, "net1": {Net: [2]uint64{n, 0}}, "net2": {Net: [2]uint64{0, n}}} {
			told(t, fmt.Sprint(name, n), []api.Pair{{Key: named(name), Value: laid(n)}}, d, api.OK)
		}
	}
}

// TestOfOthers: P29.1, what isn't a market's number, a balance or an order isn't looked at.
func TestOfOthers(t *testing.T) {
	others := []api.Pair{
		{}, {Key: "a"}, {Key: "ta"}, {Key: "to"}, {Key: "tb\x00\x00"}, {Key: "te\x00\x00x", Value: "broken"}, {Key: placeKey(api.Order{ID: 77})}, {Key: expiryKey(api.Order{ID: 77})},
		{Key: named("net3"), Value: "broken"}, {Key: named("net"), Value: "broken"}, {Key: named("ids"), Value: "broken"}, {Key: named("clocks"), Value: ""}, {Key: "tn\x00\x00", Value: "broken"}, {Key: "\xff"},
	}
	told(t, "others alone", others, dump.Dump{}, api.OK)
	told(t, "among others", append(others, pairs(sound())...), sound(), api.OK)
}

// TestOfAsItStands: P29.1, balances are told as they stand: of nobody, of other things, and those of nothing, too.
func TestOfAsItStands(t *testing.T) {
	d := dump.Dump{Accounts: []dump.Account{
		{ID: 0, Thing: 1, Money: api.Balance{Free: 5}},
		{ID: 7, Thing: math.MinInt32, Money: api.Balance{Free: 5}},
		{ID: 7, Thing: -1, Money: api.Balance{Free: 5}},
		{ID: 7, Thing: 0, Money: api.Balance{Free: 5}},
		{ID: 7, Thing: 1},
		{ID: 7, Thing: 3, Money: api.Balance{Held: 5}},
		{ID: 7, Thing: math.MaxInt32, Money: api.Balance{Free: 5}},
		{ID: half, Thing: 2},
	}}
	told(t, "as it stands", pairs(d), d, api.OK)
}

// TestOfNewMemory: an answer shares none with another one.
func TestOfNewMemory(t *testing.T) {
	s := overlay.New(pairs(sound())...)
	a, _ := dump.Of(s)
	b, _ := dump.Of(s)
	a.Accounts[0].ID, a.Orders[0].ID = 77, 77
	_ = append(a.Accounts[:1], dump.Account{ID: 78})
	_ = append(a.Orders[:1], api.Order{ID: 78})
	alike(t, "another one", b, sound())
	listed(t, "below", all(s), pairs(sound()))
}

// changes: dumps that aren't the sound one, each by one part.
func changes() map[string]dump.Dump {
	return map[string]dump.Dump{
		"clock":              but(func(d *dump.Dump) { d.Clock++ }),
		"ids":                but(func(d *dump.Dump) { d.IDs++ }),
		"ranks":              but(func(d *dump.Dump) { d.Ranks++ }),
		"net of Cash":        but(func(d *dump.Dump) { d.Net[0]++ }),
		"net of Goods":       but(func(d *dump.Dump) { d.Net[1]++ }),
		"nets":               but(func(d *dump.Dump) { d.Net[0], d.Net[1] = d.Net[1], d.Net[0] }),
		"clock and ids":      but(func(d *dump.Dump) { d.Clock, d.IDs = d.IDs, d.Clock }),
		"an account":         but(func(d *dump.Dump) { d.Accounts[1].ID++ }),
		"a thing":            but(func(d *dump.Dump) { d.Accounts[4].Thing++ }),
		"what is free":       but(func(d *dump.Dump) { d.Accounts[0].Money.Free++ }),
		"what is held":       but(func(d *dump.Dump) { d.Accounts[0].Money.Held++ }),
		"accounts' order":    but(func(d *dump.Dump) { slices.Reverse(d.Accounts) }),
		"an account less":    but(func(d *dump.Dump) { d.Accounts = d.Accounts[:4] }),
		"an account more":    but(func(d *dump.Dump) { d.Accounts = append(d.Accounts, dump.Account{}) }),
		"no accounts":        but(func(d *dump.Dump) { d.Accounts = nil }),
		"an order's number":  but(func(d *dump.Dump) { d.Orders[3].ID++ }),
		"an order's account": but(func(d *dump.Dump) { d.Orders[0].Account++ }),
		"an order's side":    but(func(d *dump.Dump) { d.Orders[0].Side++ }),
		"an order's price":   but(func(d *dump.Dump) { d.Orders[0].Price++ }),
		"an order's size":    but(func(d *dump.Dump) { d.Orders[0].Size++ }),
		"an order's left":    but(func(d *dump.Dump) { d.Orders[0].Left++ }),
		"an order's rank":    but(func(d *dump.Dump) { d.Orders[0].Rank++ }),
		"an order's expiry":  but(func(d *dump.Dump) { d.Orders[0].Expiry++ }),
		"an order's state":   but(func(d *dump.Dump) { d.Orders[0].State++ }),
		"orders' order":      but(func(d *dump.Dump) { slices.Reverse(d.Orders) }),
		"an order less":      but(func(d *dump.Dump) { d.Orders = d.Orders[1:] }),
		"an order more":      but(func(d *dump.Dump) { d.Orders = append(d.Orders, api.Order{}) }),
		"no orders":          but(func(d *dump.Dump) { d.Orders = nil }),
	}
}

// TestSame: P29.1.
func TestSame(t *testing.T) {
	want(t, "of nothing", dump.Same(dump.Dump{}, dump.Dump{}), true)
	want(t, "no elements", dump.Same(dump.Dump{Accounts: []dump.Account{}}, dump.Dump{Orders: []api.Order{}}), true)
	want(t, "itself", dump.Same(sound(), sound()), true)
	want(t, "nothing and something", dump.Same(dump.Dump{}, sound()), false)
	for what, d := range changes() {
		want(t, what, dump.Same(d, sound()), false)
		want(t, what+", the other way round", dump.Same(sound(), d), false)
		want(t, what+", twice", dump.Same(d, d), true)
	}
}

// TestOrder: P29.1, the first of that number.
func TestOrder(t *testing.T) {
	d := sound()
	for _, x := range sound().Orders {
		got, ok := d.Order(x.ID)
		want(t, fmt.Sprint("Order ", x.ID), got, x)
		want(t, fmt.Sprint("Order ", x.ID), ok, true)
	}
	for _, id := range []uint64{0, 3, 254, 257, half, end - 1} {
		got, ok := d.Order(id)
		want(t, fmt.Sprint("Order ", id), got, api.Order{})
		want(t, fmt.Sprint("Order ", id), ok, false)
	}
	d.Orders = []api.Order{{ID: 4, Rank: 1}, {ID: 3, Rank: 2}, {ID: 4, Rank: 3}, {ID: 3, Rank: 4}, {Rank: 5}, {Rank: 6}}
	for id, rank := range map[uint64]uint64{4: 1, 3: 2, 0: 5} {
		got, ok := d.Order(id)
		want(t, fmt.Sprint("the first ", id), got, api.Order{ID: id, Rank: rank})
		want(t, fmt.Sprint("the first ", id), ok, true)
	}
	got, ok := dump.Dump{}.Order(1)
	want(t, "of nothing", got, api.Order{})
	want(t, "of nothing", ok, false)
}
