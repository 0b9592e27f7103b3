package dump_test

import (
	"fmt"
	"slices"
	"strings"
	"testing"

	"bourse/api"
	"bourse/dump"
	"bourse/overlay"
)

// broken is a value that isn't what it has to be.
type broken struct {
	value string
	fault api.Errno
}

// harms: a number's, a balance's, an order's.
func harms() (numbers, balances, orders []broken) {
	whole := orderBytes(sound().Orders[0])
	numbers = []broken{{"", api.ErrShort}, {"\x80", api.ErrShort}, {"\x80\x00", api.ErrForm}, {"\x05\x05", api.ErrForm}, {strings.Repeat("\xff", 10), api.ErrRange}}
	balances = []broken{{"", api.ErrShort}, {"\x02", api.ErrShort}, {"\x02\x02\x02", api.ErrForm}, {"\x82\x00\x02", api.ErrForm}, {strings.Repeat("\xff", 10) + "\x00", api.ErrRange},
		{"\x01\x02", api.ErrUnder}, {"\x02\x01", api.ErrUnder}, {signed(greatest, 1), api.ErrOver}}
	orders = []broken{{"", api.ErrShort}, {whole[:len(whole)-1], api.ErrShort}, {whole + "\x00", api.ErrForm}, {"\x81\x00" + whole[1:], api.ErrForm}, {strings.Repeat("\xff", 10) + whole, api.ErrRange}}
	for fault, x := range map[api.Errno]api.Order{
		api.ErrArg:   {Side: 1, Price: 1, Size: 1, Left: 1, State: 1},
		api.ErrSide:  {Account: 1, Side: 3, Price: 1, Size: 1, Left: 1, State: 1},
		api.ErrPrice: {Account: 1, Side: 1, Price: top + 1, Size: 1, Left: 1, State: 1},
		api.ErrSize:  {Account: 1, Side: 1, Price: 1, Size: 1, Left: 2, State: 1},
		api.ErrKind:  {Account: 1, Side: 1, Price: 1, Size: 1, Left: 1, State: 2},
	} {
		orders = append(orders, broken{orderBytes(x), fault})
	}
	return numbers, balances, orders
}

// places: where something may be broken, in the order in which it is looked at; what its error is of, told by its values.
func places() ([]string, func(key string) []broken) {
	numbers, balances, orders := harms()
	keys := []string{named("clock"), named("id"), named("rank"), named("net1"), named("net2"), balanceKey(1, 1), balanceKey(1, 2), balanceKey(256, 1), orderKey(1), orderKey(2), orderKey(256)}
	return keys, func(key string) []broken {
		switch key[1] {
		case 'n':
			return numbers
		case 'a':
			return balances
		}
		return orders
	}
}

// TestOfBroken: P29.1, each broken value, in each place, among others that aren't.
func TestOfBroken(t *testing.T) {
	keys, values := places()
	for _, key := range keys {
		for _, b := range values(key) {
			what := fmt.Sprintf("%q: %x", key, b.value)
			told(t, what, []api.Pair{{Key: key, Value: b.value}}, dump.Dump{}, b.fault)
			told(t, what+" among others", append(pairs(sound()), api.Pair{Key: key, Value: b.value}), dump.Dump{}, b.fault)
		}
	}
}

// TestOfFirst: P29.1, the first error, of each two things that are broken.
func TestOfFirst(t *testing.T) {
	keys, values := places()
	for i, first := range keys {
		for _, second := range keys[i+1:] {
			for _, a := range values(first) {
				for _, b := range values(second) {
					if a.fault == b.fault {
						continue
					}
					l := append(pairs(sound()), api.Pair{Key: first, Value: a.value}, api.Pair{Key: second, Value: b.value})
					told(t, fmt.Sprintf("%q: %x, %q: %x", first, a.value, second, b.value), l, dump.Dump{}, a.fault)
				}
			}
		}
	}
}

// TestOfKeys: P29.1, layer 21's error, of what stands among balances or orders, ahead of its value's.
func TestOfKeys(t *testing.T) {
	whole := orderBytes(sound().Orders[0])
	for _, key := range []string{"ta\x00\x00", "ta\x00\x00x", balanceKey(1, 1) + "x", balanceKey(1, 1)[:20], balanceKey(1, 1) + "i" + eight(half), "ta\x00\x00u12345678i" + eight(half+1<<31), "ta\x00\x00u12345678i" + eight(half-1<<31-1), "ta\x00\x00u12345678u" + eight(1)} {
		told(t, fmt.Sprintf("%q", key), []api.Pair{{Key: key, Value: "\x02\x02"}}, dump.Dump{}, api.ErrKey)
		told(t, fmt.Sprintf("%q, broken", key), []api.Pair{{Key: key, Value: ""}}, dump.Dump{}, api.ErrKey)
		told(t, fmt.Sprintf("%q, an order broken", key), []api.Pair{{Key: key, Value: "\x02\x02"}, {Key: orderKey(1)}}, dump.Dump{}, api.ErrKey)
		told(t, fmt.Sprintf("%q, a number broken", key), []api.Pair{{Key: key, Value: "\x02\x02"}, {Key: named("net2")}}, dump.Dump{}, api.ErrShort)
	}
	for _, key := range []string{"to\x00\x00", "to\x00\x00x", orderKey(1) + "x", orderKey(1)[:10], orderKey(1) + "u" + eight(1), "to\x00\x00i" + eight(half+1)} {
		told(t, fmt.Sprintf("%q", key), []api.Pair{{Key: key, Value: whole}}, dump.Dump{}, api.ErrKey)
		told(t, fmt.Sprintf("%q, broken", key), []api.Pair{{Key: key, Value: ""}}, dump.Dump{}, api.ErrKey)
		told(t, fmt.Sprintf("%q, a balance broken", key), []api.Pair{{Key: key, Value: whole}, {Key: balanceKey(end, 2)}}, dump.Dump{}, api.ErrShort)
	}
	told(t, "the order 0", []api.Pair{{Key: orderKey(0), Value: whole}}, dump.Dump{}, api.ErrArg)
	told(t, "a balance ahead of a key", []api.Pair{{Key: balanceKey(1, 1)}, {Key: balanceKey(1, 1) + "x"}}, dump.Dump{}, api.ErrShort)
	told(t, "an order ahead of a key", []api.Pair{{Key: orderKey(1)}, {Key: orderKey(1) + "x"}}, dump.Dump{}, api.ErrShort)
}

// TestOfBrokenStays: beside an error nothing is told, whatever was ahead of it, and nothing is changed.
func TestOfBrokenStays(t *testing.T) {
	l := append(pairs(sound()), api.Pair{Key: orderKey(end)})
	s := overlay.New(l...)
	d, e := dump.Of(s)
	want(t, "error", e, api.ErrShort)
	want(t, "numbers", d.Clock|d.IDs|d.Ranks|d.Net[0]|d.Net[1], 0)
	want(t, "lists", len(d.Accounts)+len(d.Orders), 0)
	if !slices.Equal(all(s), all(overlay.New(l...))) {
		t.Error("the shelf has changed")
	}
}
