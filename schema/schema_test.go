package schema_test

import (
	"fmt"
	"math"
	"strings"
	"testing"

	"bourse/api"
	"bourse/schema"
)

// want: a test fails, if something is another thing than was wanted.
func want[T comparable](t *testing.T, what string, got, wanted T) {
	t.Helper()
	if got != wanted {
		t.Errorf("%s: %+v, wanted %+v", what, got, wanted)
	}
}

// same: as want, of bytes.
func same(t *testing.T, what, got, wanted string) {
	t.Helper()
	if got != wanted {
		t.Errorf("%s: %x, wanted %x", what, got, wanted)
	}
}

const (
	zeros  = "\x00\x00\x00\x00\x00\x00\x00\x00" // the count 0, the least rising number
	ones   = "\xff\xff\xff\xff\xff\xff\xff\xff" // the greatest count, the greatest rising number
	middle = "\x80" + "\x00\x00\x00\x00\x00\x00\x00"
)

// low: a rising number's bytes, of the last one, from 0 on.
func low(n byte) string { return middle[:7] + string([]byte{n}) }

// one: a count's bytes, of the last one.
func one(n byte) string { return zeros[:7] + string([]byte{n}) }

// made is a key by hand, what it is of, and what the program made.
type made struct {
	by   string
	of   schema.Thing
	made string
}

func balance(by string, account uint64, thing int) made {
	return made{by, schema.Thing{Sort: "a", Account: account, Kind: thing}, schema.Balance(account, thing)}
}

func order(by string, id uint64) made {
	return made{by, schema.Thing{Sort: "o", ID: id}, schema.Order(id)}
}

func place(by string, side int, price int64, rank, id uint64) made {
	of := schema.Thing{Sort: "b", Kind: side, Price: price, Rank: rank, ID: id}
	return made{by, of, schema.Place(api.Order{Side: side, Price: price, Rank: rank, ID: id})}
}

func expiry(by string, at, id uint64) made {
	return made{by, schema.Thing{Sort: "e", At: at, ID: id}, schema.Expiry(at, id)}
}

func number(by, name string) made {
	k, e := schema.Number(name)
	if e != api.OK {
		k = e.Error()
	}
	return made{by, schema.Thing{Sort: "n", Name: name}, k}
}

// examples: by hand.
func examples() []made {
	return []made{
		balance("ta\x00\x00u"+one(7)+"i"+low(2), 7, 2),
		balance("ta\x00\x00u"+zeros+"i"+low(1), 0, 1),
		balance("ta\x00\x00u"+ones+"i"+middle, math.MaxUint64, 0),
		balance("ta\x00\x00u\x01\x02\x03\x04\x05\x06\x07\x08i\x7f\xff\xff\xff\xff\xff\xff\xff", 0x0102030405060708, -1),
		balance("ta\x00\x00u"+one(1)+"i\x80\x00\x00\x00\x7f\xff\xff\xff", 1, math.MaxInt32),
		balance("ta\x00\x00u"+one(1)+"i\x7f\xff\xff\xff\x80\x00\x00\x00", 1, math.MinInt32),

		order("to\x00\x00u"+one(1), 1),
		order("to\x00\x00u"+zeros, 0),
		order("to\x00\x00u"+ones, math.MaxUint64),
		order("to\x00\x00u\x80\x00\x00\x00\x00\x00\x00\x05", 1<<63+5),

		place("tb\x00\x00i"+low(1)+"d\x7f\xff\xff\xff\xff\xff\xff\xfa"+"u"+one(3)+"u"+one(4), api.Buy, 5, 3, 4),
		place("tb\x00\x00i"+low(2)+"i"+low(5)+"u"+one(3)+"u"+one(4), api.Sell, 5, 3, 4),
		place("tb\x00\x00i"+middle+"i"+low(5)+"u"+one(3)+"u"+one(4), 0, 5, 3, 4),
		place("tb\x00\x00i"+low(3)+"i"+low(5)+"u"+one(3)+"u"+one(4), 3, 5, 3, 4),
		place("tb\x00\x00i\x7f\xff\xff\xff\xff\xff\xff\xff"+"i"+low(5)+"u"+one(3)+"u"+one(4), -1, 5, 3, 4),
		place("tb\x00\x00i\x80\x00\x00\x00\x7f\xff\xff\xff"+"i"+middle+"u"+zeros+"u"+zeros, math.MaxInt32, 0, 0, 0),
		place("tb\x00\x00i\x7f\xff\xff\xff\x80\x00\x00\x00"+"i"+middle+"u"+zeros+"u"+zeros, math.MinInt32, 0, 0, 0),
		place("tb\x00\x00i"+low(1)+"d"+zeros+"u"+ones+"u"+zeros, api.Buy, math.MaxInt64, math.MaxUint64, 0),
		place("tb\x00\x00i"+low(1)+"d"+ones+"u"+zeros+"u"+ones, api.Buy, math.MinInt64, 0, math.MaxUint64),
		place("tb\x00\x00i"+low(2)+"i"+ones+"u"+ones+"u"+zeros, api.Sell, math.MaxInt64, math.MaxUint64, 0),
		place("tb\x00\x00i"+low(2)+"i"+zeros+"u"+zeros+"u"+ones, api.Sell, math.MinInt64, 0, math.MaxUint64),

		expiry("te\x00\x00u"+one(9)+"u"+one(4), 9, 4),
		expiry("te\x00\x00u"+zeros+"u"+ones, 0, math.MaxUint64),
		expiry("te\x00\x00u"+ones+"u"+zeros, math.MaxUint64, 0),

		number("tn\x00\x00tclock\x00\x00", "clock"),
		number("tn\x00\x00t\x00\x00", ""),
		number("tn\x00\x00t\x00\xff\x00\x00", "\x00"),
		number("tn\x00\x00t\xff\x00\xff\xff\x00\x00", "\xff\x00\xff"),
		number("tn\x00\x00t\x00\xff\x00\xff\x00\x00", "\x00\x00"),
		number("tn\x00\x00tZ\xc3\xbcrich\x00\x00", "Zürich"),
		number("tn\x00\x00t"+strings.Repeat("x", 193)+"\x00\x00", strings.Repeat("x", 193)),
	}
}

// TestExamples: P21.1, P21.2, P21.3, both ways.
func TestExamples(t *testing.T) {
	for _, x := range examples() {
		what := fmt.Sprintf("%+v", x.of)
		same(t, what, x.made, x.by)
		got, e := schema.Parse(x.by)
		want(t, what+": Parse", got, x.of)
		want(t, what+": Parse's error", e, api.OK)
	}
}

// TestOfAPlace: P21.1, by the order's Side, Price, Rank and ID alone.
func TestOfAPlace(t *testing.T) {
	for _, side := range []int{api.Buy, api.Sell, 0, 7} {
		o := api.Order{Side: side, Price: 5, Rank: 6, ID: 7}
		full := o
		full.Account, full.Size, full.Left, full.Expiry, full.State = 1, 2, 3, 4, api.Filled
		same(t, fmt.Sprint("the side ", side), schema.Place(full), schema.Place(o))
	}
}

// TestNumberErrors: P21.1, layer 4's error; a key has 200 bytes at most.
func TestNumberErrors(t *testing.T) {
	for _, c := range []struct {
		what, name string
		wanted     api.Errno
	}{
		{"200 bytes", strings.Repeat("x", 193), api.OK},
		{"201 bytes", strings.Repeat("x", 194), api.ErrLong},
		{"many bytes", strings.Repeat("x", 100000), api.ErrLong},
		{"199 bytes, of bytes 0", strings.Repeat("\x00", 96), api.OK},
		{"200 bytes, of bytes 0 and another one", strings.Repeat("\x00", 96) + "x", api.OK},
		{"201 bytes, of bytes 0", strings.Repeat("\x00", 97), api.ErrLong},
	} {
		k, e := schema.Number(c.name)
		want(t, c.what, e, c.wanted)
		if e != api.OK {
			same(t, c.what+": bytes", k, "")
			continue
		}
		got, e := schema.Parse(k)
		want(t, c.what+": Parse", got, schema.Thing{Sort: "n", Name: c.name})
		want(t, c.what+": Parse's error", e, api.OK)
	}
}
