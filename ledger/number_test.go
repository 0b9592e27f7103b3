package ledger_test

import (
	"fmt"
	"maps"
	"math"
	"strings"
	"testing"

	"bourse/api"
	"bourse/ledger"
	"bourse/overlay"
)

// TestNumbers: P23.2, what is set is there, under its key, as Num; 0 isn't there.
func TestNumbers(t *testing.T) {
	numbers := []uint64{0, 1, 127, 128, 300, 1<<56 - 1, 1 << 56, 1<<56 + 1, 1<<63 - 1, 1 << 63, math.MaxUint64}
	names := map[string]string{
		"id": named("id"), "rank": named("rank"), "clock": named("clock"), "": named(""), "ID": named("ID"),
		"a\x00b": named("a\x00\xffb"), "\xff": named("\xff"), strings.Repeat("x", 193): named(strings.Repeat("x", 193)),
	}
	for name, key := range names {
		for _, first := range numbers {
			for _, then := range numbers {
				o := overlay.Over(nil)
				what := fmt.Sprintf("%.9q: %d, then %d", name, first, then)
				want(t, what, ledger.Set(o, name, first), api.OK)
				number(t, what, o, name, first)
				want(t, what, ledger.Set(o, name, then), api.OK)
				number(t, what, o, name, then)
				var wanted []api.Pair
				if then != 0 {
					wanted = []api.Pair{{Key: key, Value: laid(then)}}
				}
				list(t, what, all(o), wanted)
			}
		}
	}
}

// number: a name has this one.
func number(t *testing.T, what string, r overlay.Reader, name string, wanted uint64) {
	t.Helper()
	n, e := ledger.Number(r, name)
	want(t, what+": Number", n, wanted)
	want(t, what+": Number's error", e, api.OK)
}

// TestNumbersApart: P23.2, each name has its own.
func TestNumbersApart(t *testing.T) {
	o := overlay.Over(nil)
	names := []string{"", "\x00", "i", "id", "id\x00", "id2", "net1", "net2", "Id"}
	for i, name := range names {
		ledger.Set(o, name, uint64(i)+1)
	}
	for i, name := range names {
		number(t, fmt.Sprintf("%q", name), o, name, uint64(i)+1)
	}
	ledger.Set(o, "id", 0)
	number(t, "gone", o, "id", 0)
	number(t, "another one", o, "id2", 6)
	want(t, "one less", len(all(o)), len(names)-1)
	number(t, "0 that stands", overlay.New(api.Pair{Key: named("id"), Value: "\x00"}), "id", 0)
}

// TestNext: P23.2, one more, up to 2^56.
func TestNext(t *testing.T) {
	o := overlay.Over(nil)
	for i := range uint64(300) {
		n, e := ledger.Next(o, "id")
		want(t, "Next", n == i+1 && e == api.OK, true)
		number(t, "Next", o, "id", i+1)
		number(t, "another one", o, "rank", 0)
	}
	for first, ok := range map[uint64]bool{0: true, 1<<56 - 2: true, 1<<56 - 1: true, 1 << 56: false, 1<<56 + 1: false, 1<<63 - 1: false, 1 << 63: false, math.MaxUint64 - 1: false, math.MaxUint64: false} {
		ledger.Set(o, "id", first)
		mark := o.Mark()
		n, e := ledger.Next(o, "id")
		what := fmt.Sprint("Next behind ", first)
		if ok {
			want(t, what, n == first+1 && e == api.OK, true)
			number(t, what, o, "id", first+1)
			continue
		}
		want(t, what, n == 0 && e == api.ErrRange, true)
		number(t, what, o, "id", first)
		want(t, what+": Mark", o.Mark(), mark)
	}
}

// TestNames: P23.2, layer 21's error of the key, ahead of all that stands.
func TestNames(t *testing.T) {
	for _, name := range []string{strings.Repeat("x", 194), strings.Repeat("\x00", 97), strings.Repeat("x", 100000)} {
		o := overlay.Over(nil)
		n, e := ledger.Number(o, name)
		want(t, "Number", n == 0 && e == api.ErrLong, true)
		n, e = ledger.Next(o, name)
		want(t, "Next", n == 0 && e == api.ErrLong, true)
		want(t, "Set", ledger.Set(o, name, 5), api.ErrLong)
		want(t, "Set of 0", ledger.Set(o, name, 0), api.ErrLong)
		want(t, "changes", o.Mark(), 0)
	}
}

// TestBrokenNumbers: P23.2, layer 3's error; Set doesn't look at what was there.
func TestBrokenNumbers(t *testing.T) {
	for value, fault := range numbersBroken() {
		o := overlay.Over(overlay.New(api.Pair{Key: named("id"), Value: value}))
		what := fmt.Sprintf("of %x", value)
		n, e := ledger.Number(o, "id")
		want(t, "Number "+what, n == 0 && e == fault, true)
		n, e = ledger.Next(o, "id")
		want(t, "Next "+what, n == 0 && e == fault, true)
		want(t, "changes "+what, o.Mark(), 0)
		number(t, "another one", o, "rank", 0)
		want(t, "Set "+what, ledger.Set(o, "id", 4), api.OK)
		number(t, "set", o, "id", 4)
	}
}

// totals: Totals over pairs.
func totals(t *testing.T, what string, l []api.Pair, wanted map[int]api.Balance, fault api.Errno) {
	t.Helper()
	s := overlay.New(l...)
	got, e := ledger.Totals(s)
	want(t, what+": error", e, fault)
	if !maps.Equal(got, wanted) {
		t.Errorf("%s: %+v, wanted %+v", what, got, wanted)
	}
	list(t, what+": below", all(s), all(overlay.New(l...)))
}

// TestTotals: P23.2, of each thing of which there are balances what is free, and what is held.
func TestTotals(t *testing.T) {
	balance := func(account uint64, thing int, bytes string) api.Pair {
		return api.Pair{Key: under(account, thing), Value: bytes}
	}
	others := []api.Pair{{}, {Key: "a"}, {Key: "ta"}, {Key: "tb\x00\x00"}, {Key: "to\x00\x00u12345678", Value: "x"}, {Key: named("net1"), Value: "\x63"}, {Key: "\xff"}}
	totals(t, "nothing", nil, nil, api.OK)
	totals(t, "others", others, nil, api.OK)
	l := append(others, balance(1, 1, "\x02\x04"))
	totals(t, "one", l, map[int]api.Balance{1: {Free: 1, Held: 2}}, api.OK)
	l = append(l, balance(1, 2, "\x06\x08"))
	totals(t, "two things", l, map[int]api.Balance{1: {Free: 1, Held: 2}, 2: {Free: 3, Held: 4}}, api.OK)
	l = append(l, balance(2, 1, "\x0a\x00"), balance(255, 2, "\x00\x14"), balance(3, 2, "\x02\x02"))
	totals(t, "some accounts", l, map[int]api.Balance{1: {Free: 6, Held: 2}, 2: {Free: 4, Held: 15}}, api.OK)
	totals(t, "Goods alone", []api.Pair{balance(9, 2, "\x02\x00")}, map[int]api.Balance{2: {Free: 1}}, api.OK)

	top := "\xfe\xff\xff\xff\xff\xff\xff\xff\xff\x01" // 2^63 - 1
	less := "\xfc" + top[1:]
	totals(t, "the greatest", []api.Pair{balance(1, 1, top+"\x00"), balance(2, 1, "\x00"+top)}, map[int]api.Balance{1: {Free: greatest, Held: greatest}}, api.OK)
	totals(t, "up to the greatest", []api.Pair{balance(1, 1, less+"\x00"), balance(2, 1, "\x00"+less), balance(3, 1, "\x02\x02")}, map[int]api.Balance{1: {Free: greatest, Held: greatest}}, api.OK)
	totals(t, "free beyond it", []api.Pair{balance(1, 1, top+"\x00"), balance(2, 1, "\x02\x00")}, nil, api.ErrOver)
	totals(t, "held beyond it", []api.Pair{balance(1, 1, "\x00"+top), balance(2, 1, "\x00\x02")}, nil, api.ErrOver)
	totals(t, "things apart", []api.Pair{balance(1, 1, top+"\x00"), balance(2, 2, top+"\x00")}, map[int]api.Balance{1: {Free: greatest}, 2: {Free: greatest}}, api.OK)
	totals(t, "other things", []api.Pair{balance(1, 3, "\x02\x00"), balance(0, 1, "\x02\x00")}, map[int]api.Balance{3: {Free: 1}, 1: {Free: 1}}, api.OK)
}

// TestTotalsErrors: P23.2, the first one, by the keys.
func TestTotalsErrors(t *testing.T) {
	top := "\xfe\xff\xff\xff\xff\xff\xff\xff\xff\x01"
	fine := []api.Pair{{Key: under(1, 1), Value: top + "\x00"}, {Key: under(9, 2), Value: "\x02\x00"}}
	for _, c := range []struct {
		what  string
		more  []api.Pair
		fault api.Errno
	}{
		{"a key ahead", []api.Pair{{Key: "ta\x00\x00", Value: "\x02\x00"}, {Key: under(2, 1)}}, api.ErrKey},
		{"a key behind", []api.Pair{{Key: under(2, 1)}, {Key: under(3, 1) + "x", Value: "\x02\x00"}}, api.ErrShort},
		{"a key alone", []api.Pair{{Key: "ta\x00\x00x"}}, api.ErrKey},
		{"a key, and its value", []api.Pair{{Key: under(3, 1) + "x"}}, api.ErrKey},
		{"a thing that doesn't fit", []api.Pair{{Key: "ta\x00\x00u12345678i\x80\x00\x00\x00\x80\x00\x00\x00", Value: "\x02\x00"}}, api.ErrKey},
		{"too much, then a value", []api.Pair{{Key: under(2, 1), Value: "\x02\x00"}, {Key: under(3, 1)}}, api.ErrOver},
		{"a value, then too much", []api.Pair{{Key: under(2, 1)}, {Key: under(3, 1), Value: "\x02\x00"}}, api.ErrShort},
		{"a value below 0", []api.Pair{{Key: under(2, 1), Value: "\x02\x01"}}, api.ErrUnder},
	} {
		totals(t, c.what, append(c.more, fine...), nil, c.fault)
	}
}
