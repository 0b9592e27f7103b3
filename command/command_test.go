package command_test

import (
	"fmt"
	"math"
	"slices"
	"testing"

	"bourse/api"
	"bourse/command"
)

const (
	greatest = math.MaxInt64
	least    = math.MinInt64
	end      = math.MaxUint64
)

// want: a test fails, if something is another thing than was wanted.
func want[T comparable](t *testing.T, what string, got, wanted T) {
	t.Helper()
	if got != wanted {
		t.Errorf("%s: %v, wanted %v", what, got, wanted)
	}
}

// list: as want, of lists.
func list[T comparable](t *testing.T, what string, got []T, wanted ...T) {
	t.Helper()
	if !slices.Equal(got, wanted) {
		t.Errorf("%s: %v, wanted %v", what, got, wanted)
	}
}

// tells: what each kind is called, and tells.
func tells() map[int][]string {
	return map[int][]string{
		1: {"place", "account", "side", "type", "price", "size", "expiry"},
		2: {"cancel", "account", "id"},
		3: {"amend", "account", "id", "price", "size"},
		4: {"tick", "n"},
		5: {"deposit", "account", "thing", "size"},
		6: {"withdraw", "account", "thing", "size"},
		7: {"depth", "side", "most"},
		8: {"status", "id"},
		9: {"money", "account"},
	}
}

// fields: all that there are.
func fields() []string {
	return []string{"account", "id", "side", "type", "thing", "most", "price", "size", "expiry", "n"}
}

func isSmall(field string) bool {
	return slices.Contains([]string{"side", "type", "thing", "most"}, field)
}

func isSigned(field string) bool { return field == "price" || field == "size" }

// set: a field is the number of these bits.
func set(o *command.Op, field string, n uint64) {
	switch field {
	case "account":
		o.Account = n
	case "id":
		o.ID = n
	case "side":
		o.Side = int(n)
	case "type":
		o.Type = int(n)
	case "thing":
		o.Thing = int(n)
	case "most":
		o.Most = int(n)
	case "price":
		o.Price = int64(n)
	case "size":
		o.Size = int64(n)
	case "expiry":
		o.Expiry = n
	case "n":
		o.N = n
	}
}

// noKinds: what is none.
func noKinds() []int {
	return []int{0, -1, 10, 11, 127, 128, 255, 256, 257, 265, 1<<32 + 1, 1<<63 - 1, least, least + 1}
}

// TestKinds: P27.2, the kinds with their words, rising, as often as one likes, left anywhere.
func TestKinds(t *testing.T) {
	wanted := []string{"1 place", "2 cancel", "3 amend", "4 tick", "5 deposit", "6 withdraw", "7 depth", "8 status", "9 money"}
	kinds := command.Kinds()
	for most := range len(wanted) + 2 {
		var got []string
		for kind, word := range kinds {
			if len(got) == most {
				break
			}
			got = append(got, fmt.Sprint(kind, " ", word))
		}
		list(t, fmt.Sprint("at most ", most), got, wanted[:min(most, len(wanted))]...)
	}
	names := []int{command.Place, command.Cancel, command.Amend, command.Tick, command.Deposit, command.Withdraw, command.Depth, command.Status, command.Money}
	list(t, "the names", names, 1, 2, 3, 4, 5, 6, 7, 8, 9)
}

// TestFields: P27.2, what a kind tells, in order; of what is no kind nothing; each list is new.
func TestFields(t *testing.T) {
	for range 2 {
		for kind, l := range tells() {
			got := command.Fields(kind)
			list(t, l[0], got, l[1:]...)
			for i := range got {
				got[i] = "altered"
			}
		}
	}
	for _, kind := range noKinds() {
		want(t, fmt.Sprint("fields of ", kind), len(command.Fields(kind)), 0)
	}
}

// TestReads: P27.2, is it 7 to 9?
func TestReads(t *testing.T) {
	for kind, l := range tells() {
		want(t, l[0], command.Reads(kind), kind >= 7)
	}
	for _, kind := range noKinds() {
		want(t, fmt.Sprint("does it read: ", kind), command.Reads(kind), false)
	}
}

// refused: an error of Bytes, and no bytes beside it.
func refused(t *testing.T, what string, o command.Op, wanted api.Errno) {
	t.Helper()
	s, e := command.Bytes(o)
	want(t, fmt.Sprintf("%s: %+v", what, o), e, wanted)
	want(t, fmt.Sprintf("%s: %+v: the bytes", what, o), s, "")
}

// unread: an error of Parse, and no operation beside it.
func unread(t *testing.T, what, s string, wanted api.Errno) {
	t.Helper()
	o, e := command.Parse(s)
	want(t, fmt.Sprintf("%s: %x", what, s), e, wanted)
	want(t, fmt.Sprintf("%s: %x: the operation", what, s), o, command.Op{})
}

// bothWays: an operation's bytes, and back.
func bothWays(t *testing.T, o command.Op, wanted string) {
	t.Helper()
	s, e := command.Bytes(o)
	want(t, fmt.Sprintf("%+v: bytes", o), fmt.Sprintf("%x", s), fmt.Sprintf("%x", wanted))
	want(t, fmt.Sprintf("%+v: Bytes", o), e, api.OK)
	x, e := command.Parse(wanted)
	want(t, fmt.Sprintf("%x: the operation", wanted), x, o)
	want(t, fmt.Sprintf("%x: Parse", wanted), e, api.OK)
}
