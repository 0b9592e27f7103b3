package dump_test

import (
	"fmt"
	"math"
	"strings"
	"testing"

	"bourse/api"
	"bourse/dump"
)

// bytesOf: a dump's, told once more.
func bytesOf(d dump.Dump) string {
	s := laid(d.Clock, d.IDs, d.Ranks, d.Net[0], d.Net[1], uint64(len(d.Accounts)))
	for _, a := range d.Accounts {
		s += laid(a.ID) + signed(int64(a.Thing)) + text(moneyBytes(a.Money))
	}
	s += laid(uint64(len(d.Orders)))
	for _, x := range d.Orders {
		s += laid(x.ID) + text(orderBytes(x))
	}
	return s
}

// bothWays: these are a dump's bytes, and they are read as it.
func bothWays(t *testing.T, what string, d dump.Dump, s string) {
	t.Helper()
	want(t, what+": Bytes", fmt.Sprintf("%x", d.Bytes()), fmt.Sprintf("%x", s))
	got, e := dump.Parse(s)
	want(t, what+": Parse's error", e, api.OK)
	alike(t, what+": Parse", got, d)
}

// unread: bytes that are no dump.
func unread(t *testing.T, what, s string, fault api.Errno) {
	t.Helper()
	d, e := dump.Parse(s)
	want(t, what, e, fault)
	alike(t, what+": beside an error", d, dump.Dump{})
}

// TestBytesByHand: P29.2, P29.4.
func TestBytesByHand(t *testing.T) {
	bothWays(t, "nothing", dump.Dump{}, "\x00\x00\x00\x00\x00\x00\x00")
	bothWays(t, "no elements", dump.Dump{Accounts: []dump.Account{}, Orders: []api.Order{}}, "\x00\x00\x00\x00\x00\x00\x00")
	bothWays(t, "numbers", dump.Dump{Clock: 1, IDs: 2, Ranks: 3, Net: [2]uint64{4, 300}}, "\x01\x02\x03\x04\xac\x02\x00\x00")
	bothWays(t, "a balance", dump.Dump{Accounts: []dump.Account{{ID: 300, Thing: api.Goods, Money: api.Balance{Free: 1, Held: 2}}}}, "\x00\x00\x00\x00\x00\x01\xac\x02\x04\x02\x02\x04\x00")
	bothWays(t, "two balances", dump.Dump{Accounts: []dump.Account{{ID: 2, Thing: -1, Money: api.Balance{Free: 64}}, {ID: 1, Thing: 64}}}, "\x00\x00\x00\x00\x00\x02\x02\x01\x03\x80\x01\x00\x01\x80\x01\x02\x00\x00\x00")
	bothWays(t, "an order", dump.Dump{Orders: sound().Orders[:1]}, "\x00\x00\x00\x00\x00\x00\x01\x01\x08\x01\x01\x14\x08\x06\x02\x09\x01")
	bothWays(t, "an order of a great number", dump.Dump{Orders: sound().Orders[4:]}, "\x00\x00\x00\x00\x00\x00\x01\xff\xff\xff\xff\xff\xff\xff\xff\xff\x01\x08\x01\x01\x02\x04\x04\x00\x00\x04")
	bothWays(t, "all", sound(), bytesOf(sound()))
}

// TestBytesOfAny: P29.2, of what may not be, too; what is handed in stays.
func TestBytesOfAny(t *testing.T) {
	for _, d := range []dump.Dump{
		{Accounts: []dump.Account{{Thing: math.MinInt, Money: api.Balance{Free: -1, Held: math.MinInt64}}, {ID: end, Thing: math.MaxInt, Money: api.Balance{Free: greatest, Held: greatest}}}},
		{Accounts: []dump.Account{{ID: 1}, {ID: 1}}, Orders: []api.Order{{}, {}, {ID: 7, Side: -1, Price: -1, Size: math.MinInt64, Left: greatest, Rank: end, Expiry: end, State: math.MinInt}}},
	} {
		want(t, fmt.Sprintf("%+v", d), fmt.Sprintf("%x", d.Bytes()), fmt.Sprintf("%x", bytesOf(d)))
	}
	d := sound()
	d.Bytes()
	alike(t, "behind Bytes", d, sound())
}

// TestReadAsItWas: P29.4, whatever the order of what is told, and however often.
func TestReadAsItWas(t *testing.T) {
	for what, d := range changes() {
		fits := true
		for _, x := range d.Orders {
			fits = fits && x.ID != 0 && x.Side < 3 && x.Size <= top && x.Left <= x.Size && x.State != api.Filled == (x.Left > 0)
		}
		if fits {
			bothWays(t, what, d, bytesOf(d))
		}
	}
	x := sound().Orders[0]
	bothWays(t, "orders again", dump.Dump{Orders: []api.Order{x, x, x}}, bytesOf(dump.Dump{Orders: []api.Order{x, x, x}}))
	a := sound().Accounts[0]
	bothWays(t, "balances again", dump.Dump{Accounts: []dump.Account{a, a, {}, {Thing: 7}}}, bytesOf(dump.Dump{Accounts: []dump.Account{a, a, {}, {Thing: 7}}}))
}

// TestParseCut: P29.2, bytes that end too early, wherever; and that go on.
func TestParseCut(t *testing.T) {
	s := bytesOf(sound())
	for i := range len(s) {
		unread(t, fmt.Sprint("cut at ", i), s[:i], api.ErrShort)
	}
	for _, more := range []string{"\x00", "\x80", s} {
		unread(t, "more", s+more, api.ErrForm)
	}
}

// TestParseNumbers: P29.2, layer 3's errors of each number.
func TestParseNumbers(t *testing.T) {
	for i := range 7 {
		ahead, behind := strings.Repeat("\x00", i), strings.Repeat("\x00", 6-i)
		what := fmt.Sprint("number ", i)
		unread(t, what+" with a nought", ahead+"\x80\x00"+behind, api.ErrForm)
		unread(t, what+" above all", ahead+strings.Repeat("\xff", 9)+"\x02"+behind, api.ErrRange)
		unread(t, what+" of eleven bytes", ahead+strings.Repeat("\x80", 10)+"\x01"+behind, api.ErrRange)
		unread(t, what+" cut", ahead+"\x80", api.ErrShort)
	}
	for _, n := range []uint64{1, 2, 1 << 16, 1<<16 + 1, 1 << 31, 1 << 62, half, end} {
		unread(t, fmt.Sprint(n, " balances that aren't there"), laid(0, 0, 0, 0, 0, n), api.ErrShort)
		unread(t, fmt.Sprint(n, " orders that aren't there"), laid(0, 0, 0, 0, 0, 0, n), api.ErrShort)
	}
	for _, one := range []string{"\x80\x00\x02\x02\x02\x02", "\x01\x82\x00\x02\x02\x02", "\x01\x02\x82\x00\x02\x02"} {
		unread(t, fmt.Sprintf("a balance %x", one), laid(0, 0, 0, 0, 0, 1)+one+"\x00", api.ErrForm)
	}
	for _, one := range []string{"\x81\x00\x08" + orderBytes(sound().Orders[0]), "\x01\x88\x00" + orderBytes(sound().Orders[0])} {
		unread(t, fmt.Sprintf("an order %x", one), laid(0, 0, 0, 0, 0, 0, 1)+one, api.ErrForm)
	}
}

// TestParseTexts: P29.2, layer 20's errors of what stands in a text, known as it is read: ahead of all that stands behind it, behind all that stands ahead of it.
func TestParseTexts(t *testing.T) {
	_, balances, orders := harms()
	const money = "\x07\x04\x02\x02\x04" // one that may be
	one := "\x05" + text(orderBytes(sound().Orders[0]))
	for _, b := range balances {
		what := fmt.Sprintf("a balance %x", b.value)
		ahead := laid(0, 0, 0, 0, 0, 2)
		wrong := "\x07\x04" + text(b.value)
		unread(t, what+", first", ahead+wrong+money+"\x00", b.fault)
		unread(t, what+", second", ahead+money+wrong+"\x00", b.fault)
		unread(t, what+", and nothing behind", ahead+wrong, b.fault)
		unread(t, what+", and more", ahead+money+wrong+"\x00\x00", b.fault)
		unread(t, what+", behind one that goes on", ahead+"\x07\x04\x03\x02\x04"+wrong+"\x00", api.ErrForm)
		unread(t, what+", cut", ahead+money+wrong[:2]+laid(uint64(len(b.value)+1))+b.value, api.ErrShort)
		for _, c := range orders {
			unread(t, what+", and an order broken", laid(0, 0, 0, 0, 0, 1)+wrong+"\x01\x05"+text(c.value), b.fault)
		}
		for _, c := range balances {
			unread(t, what+", and another one", ahead+wrong+"\x07\x04"+text(c.value)+"\x00", b.fault)
		}
	}
	for _, b := range orders {
		what := fmt.Sprintf("an order %x", b.value)
		ahead := laid(0, 0, 0, 0, 0, 0, 2)
		wrong := "\x05" + text(b.value)
		unread(t, what+", first", ahead+wrong+one, b.fault)
		unread(t, what+", second", ahead+one+wrong, b.fault)
		unread(t, what+", and nothing behind", ahead+wrong, b.fault)
		unread(t, what+", and more", ahead+one+wrong+"\x00", b.fault)
		unread(t, what+", cut", ahead+one+"\x05"+laid(uint64(len(b.value)+1))+b.value, api.ErrShort)
		for _, c := range orders {
			unread(t, what+", and another one", ahead+wrong+"\x05"+text(c.value), b.fault)
		}
	}
	unread(t, "the order 0", laid(0, 0, 0, 0, 0, 0, 1)+"\x00"+one[1:], api.ErrArg)
	unread(t, "the order 0, of a text that is none", laid(0, 0, 0, 0, 0, 0, 1)+"\x00\x00", api.ErrShort)
}

// TestParseLong: P29.2, a text of more than 4096 bytes, known when its number was read.
func TestParseLong(t *testing.T) {
	for what, ahead := range map[string]string{"a balance": laid(0, 0, 0, 0, 0, 1, 7) + "\x02", "an order": laid(0, 0, 0, 0, 0, 0, 1, 7)} {
		whole := map[string]string{"a balance": "\x02\x02", "an order": orderBytes(sound().Orders[0])}[what]
		for n, fault := range map[int]api.Errno{4095: api.ErrForm, 4096: api.ErrForm, 4097: api.ErrLong, 100000: api.ErrLong} {
			s := ahead + text(whole+strings.Repeat("\x00", n-len(whole)))
			unread(t, fmt.Sprint(what, " in ", n), s, fault)
			unread(t, fmt.Sprint(what, " in ", n, ", and more"), s+"\x00\x00", fault)
		}
		for n, fault := range map[uint64]api.Errno{4096: api.ErrShort, 4097: api.ErrLong, 1 << 31: api.ErrLong, half: api.ErrLong, end: api.ErrLong} {
			unread(t, fmt.Sprint(what, " of ", n, " that aren't there"), ahead+laid(n)+whole, fault)
		}
	}
}

// TestParseThings: P29.2, one that doesn't fit 32 bits is ErrForm, behind all other errors.
func TestParseThings(t *testing.T) {
	const numbers = "\x01\x02\x03\x04\x05"
	for _, thing := range []int64{math.MinInt32, math.MinInt32 + 1, -1, 0, 1, 2, 3, math.MaxInt32 - 1, math.MaxInt32} {
		d := dump.Dump{Clock: 1, Accounts: []dump.Account{{ID: 7, Thing: int(thing), Money: api.Balance{Free: 1}}, sound().Accounts[0]}}
		bothWays(t, fmt.Sprint("the thing ", thing), d, bytesOf(d))
	}
	many := laid(1<<16+1) + strings.Repeat("\x05"+text(orderBytes(sound().Orders[0])), 1<<16+1)
	for _, thing := range []int64{math.MinInt64, math.MinInt32 - 1<<32, math.MinInt32 - 1, math.MaxInt32 + 1, 1<<32 + 1, 1<<32 + 2, greatest} {
		what := fmt.Sprint("the thing ", thing)
		wrong := "\x07" + signed(thing)
		unread(t, what, numbers+"\x01"+wrong+"\x02\x02\x04\x00", api.ErrForm)
		unread(t, what+" among others", numbers+"\x03\x07\x02\x02\x02\x04"+wrong+"\x02\x02\x04\x07\x02\x02\x02\x04\x00", api.ErrForm)
		unread(t, what+", and more", numbers+"\x01"+wrong+"\x02\x02\x04\x00\x00", api.ErrForm)
		unread(t, what+", then cut", numbers+"\x01"+wrong, api.ErrShort)
		unread(t, what+", then no orders' number", numbers+"\x01"+wrong+"\x02\x02\x04", api.ErrShort)
		unread(t, what+", below 0", numbers+"\x01"+wrong+"\x02\x02\x01\x00", api.ErrUnder)
		unread(t, what+", then a long text", numbers+"\x01"+wrong+"\x81\x20", api.ErrLong)
		unread(t, what+", then one below 0", numbers+"\x02"+wrong+"\x02\x02\x04\x07\x02\x02\x01\x02\x00", api.ErrUnder)
		unread(t, what+", then an order of the number 0", numbers+"\x01"+wrong+"\x02\x02\x04\x01\x00"+text(orderBytes(sound().Orders[0])), api.ErrArg)
		unread(t, what+", then too many orders", numbers+"\x01"+wrong+"\x02\x02\x04"+many, api.ErrMany)
	}
}

// TestParseMany: P29.2, more than 2^16 of one sort, behind the reader's errors.
func TestParseMany(t *testing.T) {
	const most = 1 << 16
	account, order := "\x07\x02\x02\x02\x04", "\x05"+text(orderBytes(sound().Orders[0]))
	x := sound().Orders[0]
	x.ID = 5
	for _, n := range []int{most - 1, most, most + 1, 2 * most, 2*most + 1} {
		a := laid(uint64(n)) + strings.Repeat(account, n)
		o := laid(uint64(n)) + strings.Repeat(order, n)
		what := fmt.Sprint(n)
		if n <= most {
			d, e := dump.Parse(laid(1, 2, 3, 4, 5) + a + o)
			want(t, what, e, api.OK)
			want(t, what+": how many", len(d.Accounts) == n && len(d.Orders) == n, true)
			want(t, what+": the last ones", d.Accounts[n-1] == dump.Account{ID: 7, Thing: 1, Money: api.Balance{Free: 1, Held: 2}} && d.Orders[n-1] == x, true)
			continue
		}
		unread(t, what+" accounts", laid(1, 2, 3, 4, 5)+a+"\x00", api.ErrMany)
		unread(t, what+" orders", laid(1, 2, 3, 4, 5, 0)+o, api.ErrMany)
		unread(t, what+" of both", laid(1, 2, 3, 4, 5)+a+o, api.ErrMany)
		unread(t, what+" accounts, then cut", laid(1, 2, 3, 4, 5)+a, api.ErrShort)
		unread(t, what+" accounts, and more", laid(1, 2, 3, 4, 5)+a+"\x00\x00", api.ErrForm)
		unread(t, what+" orders, the last one cut", laid(1, 2, 3, 4, 5, 0)+o[:len(o)-1], api.ErrShort)
		unread(t, what+" orders, and more", laid(1, 2, 3, 4, 5, 0)+o+"\x00", api.ErrForm)
		unread(t, what+" accounts, then an order below all", laid(1, 2, 3, 4, 5)+a+"\x01\x00"+order[1:], api.ErrArg)
		big := laid(uint64(n)) + strings.Repeat(account, n-1) + "\x07" + signed(1<<31) + "\x02\x02\x04"
		unread(t, what+" accounts, one of a thing that doesn't fit", laid(1, 2, 3, 4, 5)+big+"\x00", api.ErrMany)
	}
}
