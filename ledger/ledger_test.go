package ledger_test

import (
	"fmt"
	"math"
	"slices"
	"testing"

	"bourse/api"
	"bourse/ledger"
	"bourse/overlay"
)

const (
	greatest = math.MaxInt64
	least    = math.MinInt64
)

// want: a test fails, if something is another thing than was wanted.
func want[T comparable](t *testing.T, what string, got, wanted T) {
	t.Helper()
	if got != wanted {
		t.Errorf("%s: %+v, wanted %+v", what, got, wanted)
	}
}

// list: as want, of pairs.
func list(t *testing.T, what string, got, wanted []api.Pair) {
	t.Helper()
	if !slices.Equal(got, wanted) {
		t.Errorf("%s: %q, wanted %q", what, got, wanted)
	}
}

// all: the pairs that there are.
func all(r overlay.Reader) []api.Pair { return slices.Collect(r.Range("", "")) }

// under: a balance's key, by hand, of an account and a thing below 256.
func under(account uint64, thing int) string {
	return "ta\x00\x00u\x00\x00\x00\x00\x00\x00\x00" + string([]byte{byte(account)}) + "i\x80\x00\x00\x00\x00\x00\x00" + string([]byte{byte(thing)})
}

// named: a number's key, by hand, of a plain name.
func named(name string) string { return "tn\x00\x00t" + name + "\x00\x00" }

// laid: a number's bytes, told once more.
func laid(n uint64) string {
	if n < 128 {
		return string([]byte{byte(n)})
	}
	return string([]byte{byte(n%128 + 128)}) + laid(n/128)
}

// has: an account's balance of Cash, as a pair; none of nothing.
func has(account uint64, free, held int64) []api.Pair {
	if free == 0 && held == 0 {
		return nil
	}
	return []api.Pair{{Key: under(account, api.Cash), Value: laid(2*uint64(free)) + laid(2*uint64(held))}}
}

// net: that of Cash, as a pair; none of 0.
func net(n uint64) []api.Pair {
	if n == 0 {
		return nil
	}
	return []api.Pair{{Key: named("net1"), Value: laid(n)}}
}

// call is one that changes balances.
type call struct {
	what string
	do   func(*overlay.Overlay) api.Errno
}

func deposit(account uint64, thing int, n int64) call {
	return call{fmt.Sprint("Deposit ", account, thing, n), func(o *overlay.Overlay) api.Errno { return ledger.Deposit(o, account, thing, n) }}
}

func withdraw(account uint64, thing int, n int64) call {
	return call{fmt.Sprint("Withdraw ", account, thing, n), func(o *overlay.Overlay) api.Errno { return ledger.Withdraw(o, account, thing, n) }}
}

func hold(account uint64, thing int, n int64) call {
	return call{fmt.Sprint("Hold ", account, thing, n), func(o *overlay.Overlay) api.Errno { return ledger.Hold(o, account, thing, n) }}
}

func release(account uint64, thing int, n int64) call {
	return call{fmt.Sprint("Release ", account, thing, n), func(o *overlay.Overlay) api.Errno { return ledger.Release(o, account, thing, n) }}
}

func pay(from, to uint64, thing int, n int64, held bool) call {
	return call{fmt.Sprint("Pay ", from, to, thing, n, held), func(o *overlay.Overlay) api.Errno { return ledger.Pay(o, from, to, thing, n, held) }}
}

// does: a call over pairs answers so, and leaves these pairs; with an error all is as it was.
func does(t *testing.T, c call, ahead []api.Pair, fault api.Errno, behind []api.Pair) {
	t.Helper()
	s := overlay.New(ahead...)
	o := overlay.Over(s)
	o.Put("other", "1")
	mark := o.Mark()
	what := fmt.Sprintf("%s over %q", c.what, ahead)
	want(t, what, c.do(o), fault)
	if fault != api.OK {
		want(t, what+": Mark", o.Mark(), mark)
		behind = ahead
	}
	wanted := overlay.New(append(slices.Clone(behind), api.Pair{Key: "other", Value: "1"})...)
	list(t, what, all(o), all(wanted))
	list(t, what+": below", all(s), all(overlay.New(ahead...)))
}

// TestWhatStands: P23.1, the words: which bytes stand under which keys; what is 0 isn't there.
func TestWhatStands(t *testing.T) {
	o := overlay.Over(nil)
	for _, c := range []struct {
		call   call
		wanted []api.Pair
	}{
		{deposit(7, api.Goods, 5), []api.Pair{{Key: under(7, 2), Value: "\x0a\x00"}, {Key: named("net2"), Value: "\x05"}}},
		{hold(7, api.Goods, 2), []api.Pair{{Key: under(7, 2), Value: "\x06\x04"}, {Key: named("net2"), Value: "\x05"}}},
		{deposit(3, api.Cash, 300), []api.Pair{{Key: under(3, 1), Value: "\xd8\x04\x00"}, {Key: under(7, 2), Value: "\x06\x04"}, {Key: named("net1"), Value: "\xac\x02"}, {Key: named("net2"), Value: "\x05"}}},
		{withdraw(3, api.Cash, 300), []api.Pair{{Key: under(7, 2), Value: "\x06\x04"}, {Key: named("net2"), Value: "\x05"}}},
		{pay(7, 8, api.Goods, 3, false), []api.Pair{{Key: under(7, 2), Value: "\x00\x04"}, {Key: under(8, 2), Value: "\x06\x00"}, {Key: named("net2"), Value: "\x05"}}},
		{pay(7, 8, api.Goods, 2, true), []api.Pair{{Key: under(8, 2), Value: "\x0a\x00"}, {Key: named("net2"), Value: "\x05"}}},
		{hold(8, api.Goods, 5), []api.Pair{{Key: under(8, 2), Value: "\x00\x0a"}, {Key: named("net2"), Value: "\x05"}}},
		{release(8, api.Goods, 4), []api.Pair{{Key: under(8, 2), Value: "\x08\x02"}, {Key: named("net2"), Value: "\x05"}}},
		{release(8, api.Goods, 1), []api.Pair{{Key: under(8, 2), Value: "\x0a\x00"}, {Key: named("net2"), Value: "\x05"}}},
		{withdraw(8, api.Goods, 5), nil},
	} {
		want(t, c.call.what, c.call.do(o), api.OK)
		list(t, c.call.what, all(o), c.wanted)
	}
	want(t, "nothing changed at all", len(o.Changes()), 0)
}

// TestArguments: P23.1, an account, a thing, an amount, in this order, ahead of all that stands.
func TestArguments(t *testing.T) {
	things := map[int]bool{1: true, 2: true, 0: false, 3: false, -1: false, -2: false, 1 + 1<<32: false, 2 - 1<<32: false, math.MinInt: false, math.MaxInt: false}
	for thing, ok := range things {
		for _, account := range []uint64{0, 1, 1 << 63, math.MaxUint64} {
			wanted := api.OK
			switch {
			case account == 0:
				wanted = api.ErrArg
			case !ok:
				wanted = api.ErrKind
			}
			b, e := ledger.Balance(overlay.New(), account, thing)
			want(t, fmt.Sprint("Balance ", account, thing), e, wanted)
			want(t, fmt.Sprint("Balance ", account, thing), b, api.Balance{})
			for _, n := range []int64{least, least + 1, -5, -1, 0, 1, 5, greatest} {
				plain, funds := wanted, wanted
				if wanted == api.OK && n < 1 {
					plain, funds = api.ErrSize, api.ErrSize
				}
				if funds == api.OK {
					funds = api.ErrFunds
				}
				want(t, fmt.Sprint("Deposit ", account, thing, n), ledger.Deposit(overlay.Over(nil), account, thing, n), plain)
				for _, c := range []call{withdraw(account, thing, n), hold(account, thing, n), release(account, thing, n), pay(account, 1, thing, n, false), pay(1, account, thing, n, false), pay(account, 1, thing, n, true), pay(account, account, thing, n, true)} {
					does(t, c, nil, funds, nil)
				}
			}
		}
	}
	broken := []api.Pair{{Key: under(0, 1)}, {Key: under(1, 1)}, {Key: under(1, 3)}, {Key: named("net1")}}
	for fault, l := range map[api.Errno][]call{
		api.ErrArg:  {deposit(0, 3, 0), withdraw(0, 3, 0), hold(0, 3, 0), release(0, 3, 0), pay(0, 1, 3, 0, true), pay(1, 0, 3, 0, true), pay(0, 0, 3, 0, false), deposit(0, 1, 1), pay(1, 0, 1, 1, false)},
		api.ErrKind: {deposit(1, 3, 0), withdraw(1, 3, 0), hold(1, 3, 0), release(1, 3, 0), pay(1, 2, 3, 0, true), deposit(1, 3, 1)},
		api.ErrSize: {deposit(1, 1, 0), withdraw(1, 1, -1), hold(1, 1, 0), release(1, 1, least), pay(1, 2, 1, 0, true)},
	} {
		for _, c := range l {
			does(t, c, broken, fault, nil)
		}
	}
	for account, wanted := range map[uint64]api.Errno{0: api.ErrArg, 1: api.ErrKind} {
		_, e := ledger.Balance(overlay.New(broken...), account, 3)
		want(t, "Balance of what can't be, though it stands broken", e, wanted)
	}
}

// TestBalance: P23.1, what stands, of the account and the thing alone.
func TestBalance(t *testing.T) {
	s := overlay.New(api.Pair{Key: under(1, 1), Value: "\x06\x04"}, api.Pair{Key: under(1, 2), Value: "\x02\x00"}, api.Pair{Key: under(2, 1), Value: "\x00\x00"})
	for _, c := range []struct {
		account uint64
		thing   int
		wanted  api.Balance
	}{
		{1, 1, api.Balance{Free: 3, Held: 2}}, {1, 2, api.Balance{Free: 1}}, {2, 1, api.Balance{}}, {2, 2, api.Balance{}}, {3, 1, api.Balance{}}, {1 << 8, 1, api.Balance{}}, {math.MaxUint64, 2, api.Balance{}},
	} {
		b, e := ledger.Balance(s, c.account, c.thing)
		want(t, fmt.Sprint("Balance ", c.account, c.thing), b, c.wanted)
		want(t, fmt.Sprint("Balance ", c.account, c.thing), e, api.OK)
	}
	o := overlay.Over(s)
	want(t, "a balance of nothing that stands", ledger.Deposit(o, 2, 1, 4), api.OK)
	b, _ := ledger.Balance(o, 2, 1)
	want(t, "a balance of nothing that stood", b, api.Balance{Free: 4})
	b, _ = ledger.Balance(s, 2, 1)
	want(t, "below", b, api.Balance{})
}

// TestDeposit: P23.1, up to the greatest balance and the greatest net, and no further.
func TestDeposit(t *testing.T) {
	for _, c := range []struct {
		free, held int64
		net        uint64
		n          int64
		fault      api.Errno
	}{
		{0, 0, 0, 1, api.OK},
		{3, 2, 5, 4, api.OK},
		{0, 2, 2, 4, api.OK},
		{3, 2, 50, 4, api.OK},
		{0, 0, 0, greatest, api.OK},
		{1, 0, 0, greatest, api.ErrOver},
		{0, 1, 0, greatest, api.ErrOver},
		{1, 1, 2, greatest - 2, api.OK},
		{1, 1, 2, greatest - 1, api.ErrOver},
		{1, 1, 1, greatest - 1, api.ErrOver},
		{greatest - 1, 0, greatest - 1, 1, api.OK},
		{greatest, 0, greatest, 1, api.ErrOver},
		{greatest, 0, 0, 1, api.ErrOver},
		{0, greatest, 0, 1, api.ErrOver},
		{1 << 62, 1<<62 - 1, 0, 1, api.ErrOver},
		{1<<62 - 1, 1<<62 - 1, 0, 1, api.OK},
		{0, 0, greatest - 1, 1, api.OK},
		{0, 0, greatest, 1, api.ErrOver},
		{0, 0, 1, greatest, api.ErrOver},
		{0, 0, 1, greatest - 1, api.OK},
		{0, 0, 1 << 63, 1, api.ErrOver},
		{0, 0, math.MaxUint64, 1, api.ErrOver},
		{0, 0, math.MaxUint64, greatest, api.ErrOver},
		{5, 5, math.MaxUint64 - 3, 9, api.ErrOver},
	} {
		ahead := append(has(1, c.free, c.held), net(c.net)...)
		does(t, deposit(1, api.Cash, c.n), ahead, c.fault, append(has(1, c.free+c.n, c.held), net(c.net+uint64(c.n))...))
	}
}

// TestWithdraw: P23.1, what is free, and no more; the net is so much less.
func TestWithdraw(t *testing.T) {
	for _, c := range []struct {
		free, held int64
		net        uint64
		n          int64
		fault      api.Errno
	}{
		{3, 2, 5, 1, api.OK},
		{3, 2, 5, 3, api.OK},
		{3, 2, 5, 4, api.ErrFunds},
		{3, 2, 5, 5, api.ErrFunds},
		{3, 0, 3, 3, api.OK},
		{3, 0, 9, 3, api.OK},
		{0, 5, 5, 1, api.ErrFunds},
		{0, 0, 5, 1, api.ErrFunds},
		{0, 0, 0, greatest, api.ErrFunds},
		{3, 2, 5, greatest, api.ErrFunds},
		{greatest, 0, greatest, greatest, api.OK},
		{greatest, 0, greatest, 1, api.OK},
		{greatest - 1, 1, greatest, greatest, api.ErrFunds},
		{0, greatest, greatest, 1, api.ErrFunds},
		{9, 0, 3, 3, api.OK},
		{9, 0, 3, 4, api.ErrUnder},
		{9, 0, 0, 1, api.ErrUnder},
		{9, 0, 3, 10, api.ErrFunds},
		{9, 0, math.MaxUint64, 1, api.OK},
		{9, 0, 1 << 63, 9, api.OK},
	} {
		ahead := append(has(1, c.free, c.held), net(c.net)...)
		does(t, withdraw(1, api.Cash, c.n), ahead, c.fault, append(has(1, c.free-c.n, c.held), net(c.net-uint64(c.n))...))
	}
}

// TestHoldAndRelease: P23.1, ErrOver ahead of ErrFunds; the net isn't looked at.
func TestHoldAndRelease(t *testing.T) {
	for _, c := range []struct {
		from, to int64
		n        int64
		fault    api.Errno
	}{
		{3, 2, 1, api.OK},
		{3, 2, 3, api.OK},
		{3, 0, 3, api.OK},
		{3, 2, 4, api.ErrFunds},
		{0, 2, 1, api.ErrFunds},
		{0, 0, 1, api.ErrFunds},
		{0, 0, greatest, api.ErrFunds},
		{3, 2, greatest - 2, api.ErrFunds},
		{3, 2, greatest - 1, api.ErrOver},
		{3, 2, greatest, api.ErrOver},
		{0, 1, greatest, api.ErrOver},
		{0, greatest, 1, api.ErrOver},
		{greatest, 0, greatest, api.OK},
		{greatest, 0, 1, api.OK},
		{greatest - 5, 5, greatest - 5, api.OK},
		{greatest - 5, 5, greatest - 4, api.ErrOver},
		{greatest - 5, 4, greatest - 4, api.ErrFunds},
		{1 << 62, 1<<62 - 1, 1 << 62, api.OK},
	} {
		rest := []api.Pair{{Key: named("net1"), Value: "broken"}, {Key: under(2, 1), Value: "\x02\x02"}}
		does(t, hold(1, api.Cash, c.n), append(has(1, c.from, c.to), rest...), c.fault, append(has(1, c.from-c.n, c.to+c.n), rest...))
		does(t, release(1, api.Cash, c.n), append(has(1, c.to, c.from), rest...), c.fault, append(has(1, c.to+c.n, c.from-c.n), rest...))
	}
}

// TestPay: P23.1, from what is free, or held, to what is free; from's balance is looked at first.
func TestPay(t *testing.T) {
	for _, c := range []struct {
		fromFree, fromHeld, toFree, toHeld int64
		n                                  int64
		free, held                         api.Errno // of what is free, of what is held
	}{
		{3, 2, 4, 5, 1, api.OK, api.OK},
		{3, 2, 4, 5, 2, api.OK, api.OK},
		{3, 2, 4, 5, 3, api.OK, api.ErrFunds},
		{3, 2, 4, 5, 4, api.ErrFunds, api.ErrFunds},
		{2, 3, 0, 0, 3, api.ErrFunds, api.OK},
		{3, 0, 0, 7, 3, api.OK, api.ErrFunds},
		{0, 3, 7, 0, 3, api.ErrFunds, api.OK},
		{0, 0, 9, 9, 1, api.ErrFunds, api.ErrFunds},
		{0, 0, 9, 9, greatest, api.ErrFunds, api.ErrFunds},
		{5, 5, greatest - 1, 0, 1, api.OK, api.OK},
		{5, 5, greatest, 0, 1, api.ErrOver, api.ErrOver},
		{5, 5, 0, greatest, 1, api.ErrOver, api.ErrOver},
		{5, 5, 0, greatest - 1, 1, api.OK, api.OK},
		{5, 5, 1 << 62, 1<<62 - 2, 1, api.OK, api.OK},
		{5, 5, 1 << 62, 1<<62 - 2, 2, api.ErrOver, api.ErrOver},
		{5, 5, greatest, 0, 6, api.ErrFunds, api.ErrFunds},
		{5, 4, 0, greatest, 5, api.ErrOver, api.ErrFunds},
		{greatest, 0, 0, 0, greatest, api.OK, api.ErrFunds},
		{0, greatest, 0, 0, greatest, api.ErrFunds, api.OK},
		{0, greatest, 1, 0, greatest, api.ErrFunds, api.ErrOver},
		{greatest, 0, 0, 1, greatest, api.ErrOver, api.ErrFunds},
	} {
		rest := []api.Pair{{Key: named("net1"), Value: "broken"}, {Key: under(3, 1), Value: "\x02\x02"}}
		ahead := slices.Concat(has(1, c.fromFree, c.fromHeld), has(2, c.toFree, c.toHeld), rest)
		does(t, pay(1, 2, api.Cash, c.n, false), ahead, c.free, slices.Concat(has(1, c.fromFree-c.n, c.fromHeld), has(2, c.toFree+c.n, c.toHeld), rest))
		does(t, pay(1, 2, api.Cash, c.n, true), ahead, c.held, slices.Concat(has(1, c.fromFree, c.fromHeld-c.n), has(2, c.toFree+c.n, c.toHeld), rest))
	}
}

// TestPayOneself: P23.1, what is held becomes free, what is free stays so; nothing is too much.
func TestPayOneself(t *testing.T) {
	for _, c := range []struct {
		free, held, n          int64
		ofWhatIsFree, ofHolder api.Errno
	}{
		{3, 2, 1, api.OK, api.OK},
		{3, 2, 2, api.OK, api.OK},
		{3, 2, 3, api.OK, api.ErrFunds},
		{2, 3, 3, api.ErrFunds, api.OK},
		{0, 3, 3, api.ErrFunds, api.OK},
		{3, 0, 3, api.OK, api.ErrFunds},
		{0, 0, 1, api.ErrFunds, api.ErrFunds},
		{3, 2, greatest, api.ErrFunds, api.ErrFunds},
		{greatest, 0, greatest, api.OK, api.ErrFunds},
		{0, greatest, greatest, api.ErrFunds, api.OK},
		{greatest - 1, 1, 1, api.OK, api.OK},
		{1, greatest - 1, 1, api.OK, api.OK},
		{1 << 62, 1<<62 - 1, 1<<62 - 1, api.OK, api.OK},
	} {
		does(t, pay(1, 1, api.Cash, c.n, false), has(1, c.free, c.held), c.ofWhatIsFree, has(1, c.free, c.held))
		does(t, pay(1, 1, api.Cash, c.n, true), has(1, c.free, c.held), c.ofHolder, has(1, c.free+c.n, c.held-c.n))
	}
}

// TestThingsApart: P23.1, each account and thing by itself, each thing with its net.
func TestThingsApart(t *testing.T) {
	ahead := []api.Pair{{Key: under(1, 1), Value: "\x06\x04"}, {Key: under(1, 2), Value: "\x0a\x08"}, {Key: under(2, 2), Value: "\x02\x02"}, {Key: named("net1"), Value: "\x05"}, {Key: named("net2"), Value: "\x0b"}}
	but := func(key int, value string) []api.Pair {
		l := slices.Clone(ahead)
		l[key].Value = value
		return l
	}
	one := but(1, "\x0c\x08")
	one[4].Value = "\x0c"
	less := but(0, "\x04\x04")
	less[3].Value = "\x04"
	does(t, deposit(1, 2, 1), ahead, api.OK, one)
	does(t, withdraw(1, 1, 1), ahead, api.OK, less)
	does(t, hold(1, 2, 5), ahead, api.OK, but(1, "\x00\x12"))
	does(t, release(2, 2, 1), ahead, api.OK, but(2, "\x04\x00"))
	paid := but(1, "\x0a\x00")
	paid[2].Value = "\x0a\x02"
	does(t, pay(1, 2, 2, 4, true), ahead, api.OK, paid)
	does(t, hold(1, 1, 4), ahead, api.ErrFunds, nil)
	does(t, pay(1, 2, 1, 4, false), ahead, api.ErrFunds, nil)
}

// TestNilOverlay: P1, of a nil overlay there is nothing, and nothing is kept.
func TestNilOverlay(t *testing.T) {
	var o *overlay.Overlay
	want(t, "Deposit", ledger.Deposit(o, 1, 1, 5), api.OK)
	for _, c := range []call{withdraw(1, 1, 1), hold(1, 1, 1), release(1, 1, 1), pay(1, 2, 1, 1, true), pay(1, 2, 1, 1, false)} {
		want(t, c.what, c.do(o), api.ErrFunds)
	}
	want(t, "Set", ledger.Set(o, "id", 5), api.OK)
	n, e := ledger.Next(o, "id")
	want(t, "Next", n == 1 && e == api.OK, true)
	b, e := ledger.Balance(o, 1, 1)
	want(t, "Balance", b == api.Balance{} && e == api.OK, true)
	m, e := ledger.Totals(o)
	want(t, "Totals", len(m) == 0 && e == api.OK, true)
}
