package ledger_test

import (
	"fmt"
	"slices"
	"strings"
	"testing"

	"bourse/api"
	"bourse/ledger"
	"bourse/overlay"
)

// balancesBroken: layer 20's errors, with bytes that have them.
func balancesBroken() map[string]api.Errno {
	return map[string]api.Errno{
		"":                                  api.ErrShort,
		"\x02":                              api.ErrShort,
		"\x02\x80":                          api.ErrShort,
		"\x02\x02\x02":                      api.ErrForm,
		"\x82\x00\x02":                      api.ErrForm,
		strings.Repeat("\xff", 10) + "\x00": api.ErrRange,
		"\x01\x02":                          api.ErrUnder,
		"\x02\x01":                          api.ErrUnder,
		"\xfe\xff\xff\xff\xff\xff\xff\xff\xff\x01\x02": api.ErrOver,
	}
}

// numbersBroken: layer 3's.
func numbersBroken() map[string]api.Errno {
	return map[string]api.Errno{
		"":                         api.ErrShort,
		"\x80":                     api.ErrShort,
		"\x80\x00":                 api.ErrForm,
		"\x05\x05":                 api.ErrForm,
		"\x00\x00":                 api.ErrForm,
		strings.Repeat("\xff", 10): api.ErrRange,
		strings.Repeat("\x80", 11): api.ErrRange,
	}
}

// TestBrokenBalance: P23.1, its error, ahead of all but the arguments', and nothing is changed.
func TestBrokenBalance(t *testing.T) {
	for value, fault := range balancesBroken() {
		ahead := []api.Pair{{Key: under(1, 1), Value: value}, {Key: under(2, 1), Value: "\x0a\x0a"}, {Key: named("net1"), Value: "\x0a"}}
		for _, c := range []call{
			deposit(1, 1, 1), deposit(1, 1, greatest), withdraw(1, 1, 1), withdraw(1, 1, greatest), hold(1, 1, 1), hold(1, 1, greatest), release(1, 1, 1), release(1, 1, greatest),
			pay(1, 2, 1, 1, false), pay(1, 2, 1, greatest, true), pay(1, 1, 1, 1, true), pay(2, 1, 1, 1, false), pay(2, 1, 1, 5, true),
		} {
			does(t, c, ahead, fault, nil)
		}
		does(t, pay(2, 1, 1, 6, false), ahead, api.ErrFunds, nil)
		does(t, pay(2, 1, 1, 6, true), ahead, api.ErrFunds, nil)
		b, e := ledger.Balance(overlay.New(ahead...), 1, 1)
		want(t, fmt.Sprintf("Balance of %x", value), e, fault)
		want(t, fmt.Sprintf("Balance of %x", value), b, api.Balance{})
		m, e := ledger.Totals(overlay.New(ahead...))
		want(t, fmt.Sprintf("Totals of %x", value), e == fault && m == nil, true)
		others := slices.Concat(ahead[:1], has(2, 2, 5))
		does(t, release(2, 1, 3), append(ahead[:1:1], has(2, 5, 2)...), api.ErrFunds, nil)
		does(t, hold(2, 1, 3), append(ahead[:1:1], has(2, 5, 2)...), api.OK, others)
	}
}

// TestBrokenNet: P23.1, of Deposit and Withdraw alone; what was changed ahead of it is as it was.
func TestBrokenNet(t *testing.T) {
	for value, fault := range numbersBroken() {
		ahead := append(has(1, 5, 5), api.Pair{Key: named("net1"), Value: value})
		does(t, deposit(1, 1, 1), ahead, fault, nil)
		does(t, deposit(2, 1, 1), ahead, fault, nil)
		does(t, withdraw(1, 1, 1), ahead, fault, nil)
		does(t, withdraw(1, 1, 5), ahead, fault, nil)
		does(t, deposit(1, 1, greatest), ahead, api.ErrOver, nil)
		does(t, withdraw(1, 1, 6), ahead, api.ErrFunds, nil)
		does(t, hold(1, 1, 1), ahead, api.OK, append(has(1, 4, 6), ahead[1:]...))
		does(t, deposit(1, 2, 1), ahead, api.OK, append(slices.Clone(ahead), api.Pair{Key: under(1, 2), Value: "\x02\x00"}, api.Pair{Key: named("net2"), Value: "\x01"}))
	}
}

// TestWholeAmongOthers: P23.1, an error undoes what the call did, not what was done ahead of it.
func TestWholeAmongOthers(t *testing.T) {
	o := overlay.Over(overlay.New(api.Pair{Key: named("net2"), Value: "broken"}))
	want(t, "Deposit", ledger.Deposit(o, 1, api.Cash, 10), api.OK)
	want(t, "Hold", ledger.Hold(o, 1, api.Cash, 4), api.OK)
	for _, c := range []call{deposit(1, api.Cash, greatest), withdraw(1, api.Cash, 7), deposit(1, api.Goods, 1), hold(1, api.Cash, 7), release(1, api.Cash, 5), pay(1, 2, api.Cash, 7, false), pay(1, 2, api.Cash, 5, true), pay(0, 1, api.Cash, 1, true)} {
		mark := o.Mark()
		want(t, c.what+" fails", c.do(o) != api.OK, true)
		want(t, c.what+": Mark", o.Mark(), mark)
		b, e := ledger.Balance(o, 1, api.Cash)
		want(t, c.what+": behind it", b == api.Balance{Free: 6, Held: 4} && e == api.OK, true)
	}
	list(t, "all", all(o), []api.Pair{{Key: under(1, 1), Value: "\x0c\x08"}, {Key: named("net1"), Value: "\x0a"}, {Key: named("net2"), Value: "broken"}})
	o.Back(0)
	list(t, "back", all(o), []api.Pair{{Key: named("net2"), Value: "broken"}})
}
