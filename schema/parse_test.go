package schema_test

import (
	"fmt"
	"math"
	"slices"
	"strings"
	"testing"

	"bourse/api"
	"bourse/key"
	"bourse/schema"
)

// none: Parse answers ErrKey, and nothing.
func none(t *testing.T, what, k string) {
	t.Helper()
	got, e := schema.Parse(k)
	if got != (schema.Thing{}) || e != api.ErrKey {
		t.Errorf("%s: Parse(%x): %+v, %v", what, k, got, e)
	}
}

// laid: parts as a key, which they must be.
func laid(t *testing.T, l ...key.Part) string {
	t.Helper()
	k, e := key.Make(l...)
	if e != api.OK {
		t.Fatalf("Make(%v): %v", l, e)
	}
	return k
}

// shapes: of each sort the sorts of the parts behind it, by hand; a place's hang on its side.
func shapes() map[string][]string {
	return map[string][]string{"a": {"ui"}, "o": {"u"}, "b": {"iduu", "iiuu"}, "e": {"uu"}, "n": {"t"}}
}

// TestShapes: P21.2, all rows of up to five parts behind each sort, and others.
func TestShapes(t *testing.T) {
	parts := []key.Part{key.Up(1), key.Up(2), key.Down(1), key.Down(2), key.Count(1), key.Text("a"), key.Text("")}
	for _, sort := range []string{"a", "o", "b", "e", "n", "", "z", "A", "aa", "a\x00", "\x00", "ao", "\xff", "i", "u"} {
		rows := [][]key.Part{{key.Text(sort)}}
		for len(rows) > 0 {
			l := rows[0]
			rows = rows[1:]
			shape(t, sort, l)
			if len(l) < 6 {
				for _, p := range parts {
					rows = append(rows, append(slices.Clone(l), p))
				}
			}
		}
	}
}

// shape: is a row of parts taken, as it must be?
func shape(t *testing.T, sort string, l []key.Part) {
	t.Helper()
	sorts := ""
	for _, p := range l[1:] {
		sorts += string(rune(p.Sort))
	}
	k := laid(t, l...)
	ok := slices.Contains(shapes()[sort], sorts)
	// The falling price is a Buy's alone.
	if ok && sort == "b" {
		ok = (l[1].N == api.Buy) == (l[2].Sort == 'd')
	}
	if !ok {
		none(t, fmt.Sprint(l), k)
		return
	}
	x, e := schema.Parse(k)
	want(t, fmt.Sprint(l, ": error"), e, api.OK)
	want(t, fmt.Sprint(l), x, thing(sort, l))
}

// thing: what a row of parts is of.
func thing(sort string, l []key.Part) schema.Thing {
	x := schema.Thing{Sort: sort}
	switch sort {
	case "a":
		x.Account, x.Kind = l[1].U, int(l[2].N)
	case "o":
		x.ID = l[1].U
	case "b":
		x.Kind, x.Price, x.Rank, x.ID = int(l[1].N), l[2].N, l[3].U, l[4].U
	case "e":
		x.At, x.ID = l[1].U, l[2].U
	case "n":
		x.Name = l[1].S
	}
	return x
}

// TestFirstPart: P21.2, a key begins with a text.
func TestFirstPart(t *testing.T) {
	none(t, "no part", "")
	for _, p := range []key.Part{key.Up(0), key.Down(0), key.Count(0), key.Count('a'), key.Up('o')} {
		none(t, "one part", laid(t, p))
		none(t, "two parts", laid(t, p, key.Count(1)))
		none(t, "a sort behind it", laid(t, p, key.Text("o"), key.Count(1)))
		none(t, "as of a place", laid(t, p, key.Up(2), key.Up(5), key.Count(1), key.Count(1)))
	}
}

// TestFits: P21.2, a thing or a side of 32 bits, and no more.
func TestFits(t *testing.T) {
	for n, ok := range map[int64]bool{
		0: true, 1: true, -1: true, math.MaxInt32: true, math.MinInt32: true,
		math.MaxInt32 + 1: false, math.MinInt32 - 1: false, math.MaxUint32: false, 1 << 32: false, 1<<32 + 1: false, 1<<32 + 2: false, -1 << 32: false,
		math.MaxInt64: false, math.MinInt64: false,
	} {
		a := laid(t, key.Text("a"), key.Count(3), key.Up(n))
		same(t, fmt.Sprint("a balance's thing ", n), schema.Balance(3, int(n)), a)
		price := key.Up(5)
		if n == api.Buy {
			price = key.Down(5)
		}
		b := laid(t, key.Text("b"), key.Up(n), price, key.Count(6), key.Count(7))
		same(t, fmt.Sprint("a place's side ", n), schema.Place(api.Order{Side: int(n), Price: 5, Rank: 6, ID: 7}), b)
		if !ok {
			none(t, fmt.Sprint("a balance's thing ", n), a)
			none(t, fmt.Sprint("a place's side ", n), b)
			none(t, fmt.Sprint("a place's side, its price falling ", n), laid(t, key.Text("b"), key.Up(n), key.Down(5), key.Count(6), key.Count(7)))
			continue
		}
		x, e := schema.Parse(a)
		want(t, fmt.Sprint("a balance's thing ", n, e), x, schema.Thing{Sort: "a", Account: 3, Kind: int(n)})
		x, e = schema.Parse(b)
		want(t, fmt.Sprint("a place's side ", n, e), x, schema.Thing{Sort: "b", Kind: int(n), Price: 5, Rank: 6, ID: 7})
	}
}

// TestNoKeys: P21.2, bytes that are none.
func TestNoKeys(t *testing.T) {
	for _, k := range []string{
		"a", "t", "ta", "ta\x00", "o\x00\x00u12345678", "tz\x00\x00", "tz\x00\x00u12345678", "to\x00\x01u12345678", "to\x00\xff\x00\x00u12345678",
		"to\x00\x00", "to\x00\x00u1234567", "to\x00\x00u123456789", "to\x00\x00u12345678 ", "to\x00\x00U12345678", "to\x00\x00x12345678",
		"tn\x00\x00t", "tn\x00\x00tx", "tn\x00\x00tx\x00", "tn\x00\x00tx\x00\x00\x00", "tn\x00\x00tx\x00y\x00\x00",
		"tn\x00\x00t" + strings.Repeat("x", 194) + "\x00\x00", "tn\x00\x00t" + strings.Repeat("x", 100000) + "\x00\x00",
	} {
		none(t, "no key", k)
	}
}

// TestAltered: P21.2, P21.3, keys cut anywhere, gone on with, each of their bytes turned to all others: what is taken would be made so.
func TestAltered(t *testing.T) {
	for _, x := range examples() {
		for i := range len(x.by) {
			none(t, "cut", x.by[:i])
		}
		for c := range 256 {
			none(t, "gone on with", x.by+string([]byte{byte(c)}))
		}
		for i := range len(x.by) {
			for c := range 256 {
				b := []byte(x.by)
				b[i] = byte(c)
				again(t, string(b))
			}
		}
	}
}

// again: a key that is taken is the one that is made of what it is of.
func again(t *testing.T, k string) {
	t.Helper()
	x, e := schema.Parse(k)
	if e != api.OK {
		want(t, fmt.Sprintf("Parse(%x)", k), e, api.ErrKey)
		want(t, fmt.Sprintf("Parse(%x)", k), x, schema.Thing{})
		return
	}
	same(t, fmt.Sprintf("%+v", x), of(t, x), k)
}

// of: a thing's key, by the function of its sort.
func of(t *testing.T, x schema.Thing) string {
	t.Helper()
	switch x.Sort {
	case "a":
		return schema.Balance(x.Account, x.Kind)
	case "o":
		return schema.Order(x.ID)
	case "b":
		return schema.Place(api.Order{Side: x.Kind, Price: x.Price, Rank: x.Rank, ID: x.ID})
	case "e":
		return schema.Expiry(x.At, x.ID)
	case "n":
		k, e := schema.Number(x.Name)
		want(t, "Number of "+x.Name, e, api.OK)
		return k
	}
	t.Fatalf("no sort: %+v", x)
	return ""
}
