package script_test

import (
	"fmt"
	"math"
	"slices"
	"strconv"
	"strings"
	"testing"

	"bourse/api"
	"bourse/command"
	"bourse/script"
)

const (
	greatest = math.MaxInt64
	least    = math.MinInt64
	end      = math.MaxUint64
)

// want: a test fails, if something is another thing than was wanted.
func want[T comparable](t *testing.T, what string, got, wanted T) {
	t.Helper()
	if got != wanted {
		t.Errorf("%s: %v, wanted %v", what, got, wanted)
	}
}

// list: as want, of lists.
func list[T comparable](t *testing.T, what string, got []T, wanted ...T) {
	t.Helper()
	if !slices.Equal(got, wanted) {
		t.Errorf("%s: %v, wanted %v", what, got, wanted)
	}
}

// dice: numbers that look like chance, the same each time.
type dice uint64

func (d *dice) below(n int) int {
	*d = *d*6364136223846793005 + 1442695040888963407
	x := uint64(*d)
	return int((x ^ x>>29) >> 20 % uint64(n))
}

// one: is it the one in so many?
func (d *dice) one(n int) bool { return d.below(n) == 0 }

// tells: what each kind is called, and tells.
func tells() map[int][]string {
	return map[int][]string{
		1:  {"place", "account", "side", "type", "price", "size", "expiry"},
		2:  {"cancel", "account", "id"},
		3:  {"amend", "account", "id", "price", "size"},
		4:  {"tick", "n"},
		5:  {"deposit", "account", "thing", "size"},
		6:  {"withdraw", "account", "thing", "size"},
		7:  {"depth", "side", "most"},
		8:  {"status", "id"},
		9:  {"money", "account"},
		10: {"flush"},
		11: {"compact", "a", "b"},
		12: {"fuse", "a"},
		13: {"fault", "a"},
		14: {"crash", "a"},
	}
}

// fields: all that there are, besides the kinds.
func fields() []string {
	return []string{"account", "id", "side", "type", "thing", "most", "price", "size", "expiry", "n", "a", "b"}
}

func isSmall(field string) bool {
	return slices.Contains([]string{"side", "type", "thing", "most"}, field)
}

func isSigned(field string) bool {
	return slices.Contains([]string{"price", "size", "a", "b"}, field)
}

// set: a field is the number of these bits.
func set(l *script.Line, field string, n uint64) {
	switch field {
	case "account":
		l.Op.Account = n
	case "id":
		l.Op.ID = n
	case "side":
		l.Op.Side = int(n)
	case "type":
		l.Op.Type = int(n)
	case "thing":
		l.Op.Thing = int(n)
	case "most":
		l.Op.Most = int(n)
	case "price":
		l.Op.Price = int64(n)
	case "size":
		l.Op.Size = int64(n)
	case "expiry":
		l.Op.Expiry = n
	case "n":
		l.Op.N = n
	case "a":
		l.A = int64(n)
	case "b":
		l.B = int64(n)
	}
}

// values: some that a field may have.
func values(field string) []uint64 {
	l := []uint64{0, 1, 9, 10, 11, 99, 100, 1000000, math.MaxInt32 - 1, math.MaxInt32}
	if isSmall(field) {
		return l
	}
	return append(l, math.MaxInt32+1, 1<<32, 1<<40, greatest-1, greatest, 1<<63, 1<<63+1, end-99, end-9, end-1, end)
}

// textOf: a field's number as it stands in a line.
func textOf(field string, n uint64) string {
	if isSigned(field) {
		return strconv.FormatInt(int64(n), 10)
	}
	return strconv.FormatUint(n, 10)
}

// plain: a line of a kind without numbers.
func plain(kind int) script.Line {
	l := script.Line{Kind: kind}
	if kind < 10 {
		l.Op.Kind = kind
	}
	return l
}

// told: a line of a kind that tells these numbers, and its text.
func told(kind int, numbers ...uint64) (script.Line, string) {
	l, s := plain(kind), tells()[kind][0]
	for i, field := range tells()[kind][1:] {
		set(&l, field, numbers[i])
		s += " " + textOf(field, numbers[i])
	}
	return l, s
}

// some: numbers for all fields of a kind, by turns.
func some(kind, turn int) []uint64 {
	var l []uint64
	for i, field := range tells()[kind][1:] {
		v := values(field)
		l = append(l, v[(turn*(i+1)+i)%len(v)])
	}
	return l
}

// bothWays: a line prints so, and is parsed from it.
func bothWays(t *testing.T, l script.Line, s string) {
	t.Helper()
	got, e := script.Print(l)
	want(t, fmt.Sprintf("Print of %+v", l), got, s)
	want(t, fmt.Sprintf("Print of %+v: its error", l), e, api.OK)
	lines, n, e := script.Parse(s + "\n")
	list(t, fmt.Sprintf("Parse of %q", s), lines, l)
	want(t, fmt.Sprintf("Parse of %q: its error", s), e, api.OK)
	want(t, fmt.Sprintf("Parse of %q: its line", s), n, 0)
}

// unprinted: an error of Print, and no text beside it.
func unprinted(t *testing.T, what string, l script.Line, wanted api.Errno) {
	t.Helper()
	s, e := script.Print(l)
	want(t, fmt.Sprintf("%s: %+v", what, l), e, wanted)
	want(t, fmt.Sprintf("%s: %+v: the text", what, l), s, "")
}

// TestByHand: P31.1, P31.3.
func TestByHand(t *testing.T) {
	for s, l := range map[string]script.Line{
		"place 1 2 3 4 5 6":  {Kind: 1, Op: command.Op{Kind: 1, Account: 1, Side: 2, Type: 3, Price: 4, Size: 5, Expiry: 6}},
		"place 1 1 1 10 5 0": {Kind: 1, Op: command.Op{Kind: 1, Account: 1, Side: 1, Type: 1, Price: 10, Size: 5}},
		"place 18446744073709551615 2147483647 2147483647 -9223372036854775808 9223372036854775807 18446744073709551615": {
			Kind: 1, Op: command.Op{Kind: 1, Account: end, Side: math.MaxInt32, Type: math.MaxInt32, Price: least, Size: greatest, Expiry: end}},
		"cancel 1 2":                {Kind: 2, Op: command.Op{Kind: 2, Account: 1, ID: 2}},
		"amend 1 2 3 -4":            {Kind: 3, Op: command.Op{Kind: 3, Account: 1, ID: 2, Price: 3, Size: -4}},
		"tick 5":                    {Kind: 4, Op: command.Op{Kind: 4, N: 5}},
		"deposit 1 1 500":           {Kind: 5, Op: command.Op{Kind: 5, Account: 1, Thing: 1, Size: 500}},
		"withdraw 1 2 30":           {Kind: 6, Op: command.Op{Kind: 6, Account: 1, Thing: 2, Size: 30}},
		"depth 2 32":                {Kind: 7, Op: command.Op{Kind: 7, Side: 2, Most: 32}},
		"status 100":                {Kind: 8, Op: command.Op{Kind: 8, ID: 100}},
		"money 0":                   {Kind: 9, Op: command.Op{Kind: 9}},
		"flush":                     {Kind: 10},
		"compact 1 2":               {Kind: 11, A: 1, B: 2},
		"compact -1 0":              {Kind: 11, A: -1},
		"fuse 3":                    {Kind: 12, A: 3},
		"fault -10":                 {Kind: 13, A: -10},
		"crash 0":                   {Kind: 14},
		"crash 9223372036854775807": {Kind: 14, A: greatest},
		"compact -9223372036854775808 -9223372036854775807": {Kind: 11, A: least, B: least + 1},
	} {
		bothWays(t, l, s)
	}
	list(t, "the kinds", []int{script.Flush, script.Compact, script.Fuse, script.Fault, script.Crash}, 10, 11, 12, 13, 14)
}

// TestPrint: P31.1, P31.3, each kind's numbers up to their ends.
func TestPrint(t *testing.T) {
	for kind := range tells() {
		for turn := range 100 {
			l, s := told(kind, some(kind, turn)...)
			bothWays(t, l, s)
		}
		for i, field := range tells()[kind][1:] {
			for _, n := range values(field) {
				numbers := make([]uint64, len(tells()[kind])-1)
				numbers[i] = n
				l, s := told(kind, numbers...)
				bothWays(t, l, s)
			}
		}
	}
}

// TestPrintKind: P31.1, there is no such kind, whatever else is wrong.
func TestPrintKind(t *testing.T) {
	for _, kind := range []int{0, -1, 15, 16, 127, 255, 256, 257, 266, 1<<32 + 1, 1<<32 + 10, greatest, least, least + 10} {
		unprinted(t, "no kind", script.Line{Kind: kind}, api.ErrKind)
		unprinted(t, "no kind", script.Line{Kind: kind, Op: command.Op{Kind: kind}}, api.ErrKind)
		unprinted(t, "no kind, and an operation's", script.Line{Kind: kind, Op: command.Op{Kind: 4, N: 5}}, api.ErrKind)
		unprinted(t, "no kind, and more", script.Line{Kind: kind, Op: command.Op{Kind: 4, ID: 5}, A: 1, B: 2}, api.ErrKind)
	}
}

// TestPrintOther: P31.1, an operation of another kind than the line's is ErrForm, also where there is no such kind.
func TestPrintOther(t *testing.T) {
	for kind := 1; kind <= 14; kind++ {
		for _, other := range []int{0, 1, 2, 3, 4, 5, 6, 7, 8, 9, 10, 11, 12, 13, 14, 15, -1, 255, 1<<32 + kind, greatest, least} {
			l := plain(kind)
			if l.Op.Kind == other {
				continue
			}
			l.Op.Kind = other
			unprinted(t, "of another kind", l, api.ErrForm)
			l.Op.Side = -1
			unprinted(t, "of another kind, and wrong", l, api.ErrForm)
			l.A = 1
			unprinted(t, "of another kind, and more", l, api.ErrForm)
		}
	}
}

// TestPrintForm: P31.1, what a line doesn't tell isn't zero; layer 27's error of a number that is small.
func TestPrintForm(t *testing.T) {
	for kind, names := range tells() {
		for _, field := range fields() {
			wrong := []uint64{1, 2, 1 << 31, 1 << 32, greatest, 1 << 63, end}
			if slices.Contains(names[1:], field) {
				if !isSmall(field) {
					continue
				}
				wrong = wrong[2:]
			}
			for turn, n := range wrong {
				l, _ := told(kind, some(kind, turn)...)
				set(&l, field, n)
				unprinted(t, names[0]+"'s "+field, l, api.ErrForm)
				none := plain(kind)
				set(&none, field, n)
				unprinted(t, names[0]+"'s "+field+" alone", none, api.ErrForm)
			}
		}
	}
}

// TestPrintOperations: P31.1, layer 27's error of each operation, by dice; its word, and what it tells.
func TestPrintOperations(t *testing.T) {
	d := dice(31)
	seen := map[api.Errno]int{}
	for range 20000 {
		kind := 1 + d.below(9)
		l := plain(kind)
		for _, field := range fields()[:10] {
			if d.one(40) || slices.Contains(tells()[kind], field) && !d.one(4) {
				v := values(field)
				set(&l, field, v[d.below(len(v))])
			}
			if d.one(60) {
				set(&l, field, uint64(-d.below(3)))
			}
		}
		_, wanted := command.Bytes(l.Op)
		s, e := script.Print(l)
		want(t, fmt.Sprintf("%+v", l), e, wanted)
		seen[e]++
		if e == api.OK {
			words := strings.Split(s, " ")
			want(t, s, len(words), 1+len(command.Fields(kind)))
		} else {
			want(t, fmt.Sprintf("%+v: the text", l), s, "")
		}
	}
	want(t, "the dice made both", seen[api.OK] > 2000 && seen[api.ErrForm] > 2000 && len(seen) == 2, true)
}
