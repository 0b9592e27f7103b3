package batch_test

import (
	"fmt"
	"math"
	"slices"
	"strings"
	"testing"
	"unsafe"

	"bourse/api"
	"bourse/batch"
)

// want: a test fails, if something is another thing than was wanted.
func want[T comparable](t *testing.T, what string, got, wanted T) {
	t.Helper()
	if got != wanted {
		t.Errorf("%s: %v, wanted %v", what, got, wanted)
	}
}

// short: bytes that a test can tell.
func short(s string) string {
	if len(s) > 60 {
		return s[:60] + ".."
	}
	return s
}

// same: as want, of bytes.
func same(t *testing.T, what, got, wanted string) {
	t.Helper()
	if got != wanted {
		t.Errorf("%s: %d bytes %x, wanted %d bytes %x", what, len(got), short(got), len(wanted), short(wanted))
	}
}

func put(key, value string) api.Change {
	return api.Change{Kind: api.Put, Key: key, Value: value}
}

func del(key string) api.Change { return api.Change{Kind: api.Delete, Key: key} }

func of(seq uint64, l ...api.Change) batch.Batch { return batch.Batch{Seq: seq, Changes: l} }

func x(n int) string { return strings.Repeat("x", n) }

// many: so many changes.
func many(n int, c api.Change) []api.Change { return slices.Repeat([]api.Change{c}, n) }

// examples: batches by their bytes.
func examples() map[string]batch.Batch {
	const (
		five = "\x05\x00\x00\x00\x00\x00\x00\x00"
		top  = "\xff\xff\xff\xff\xff\xff\xff\x00"
	)
	return map[string]batch.Batch{
		five + "\x00":                                             of(5),
		"\x00\x00\x00\x00\x00\x00\x00\x00\x00":                    of(0),
		top + "\x00":                                              of(batch.Top),
		"\x08\x07\x06\x05\x04\x03\x02\x00\x00":                    of(0x0002030405060708),
		five + "\x01\x01\x01a\x011":                               of(5, put("a", "1")),
		five + "\x01\x01\x01a\x00":                                of(5, put("a", "")),
		five + "\x01\x02\x01a":                                    of(5, del("a")),
		top + "\x01\x02\x01a":                                     of(batch.Top, del("a")),
		five + "\x02\x01\x01a\x011\x02\x01b":                      of(5, put("a", "1"), del("b")),
		five + "\x02\x02\x01a\x01\x01a\x03\x00\xff\x80":           of(5, del("a"), put("a", "\x00\xff\x80")),
		five + "\x03\x02\x02\x01\x02\x02\x01\x00\x02\x03abc":      of(5, del("\x01\x02"), del("\x00"), del("abc")),
		five + "\x01\x01\xc8\x01" + x(200) + "\x80\x20" + x(4096): of(5, put(x(200), x(4096))),
		five + "\x80\x01" + strings.Repeat("\x02\x01a", 128):      of(5, many(128, del("a"))...),
		five + "\xd0\x0f" + strings.Repeat("\x01\x01a\x00", 2000): of(5, many(2000, put("a", ""))...),
	}
}

// TestExamples: P6.1 and P6.3, both ways, all bytes.
func TestExamples(t *testing.T) {
	for s, b := range examples() {
		what := fmt.Sprintf("%x", short(s))
		want(t, what+": Check", b.Check(), api.OK)
		got, e := b.Bytes()
		same(t, what, got, s)
		want(t, what+": Bytes", e, api.OK)
		back, e := batch.Parse(s)
		want(t, what+": Parse", e, api.OK)
		if !equal(back, b) {
			t.Errorf("%s: %v, wanted %v", what, back, b)
		}
	}
}

// equal: Same, told once more.
func equal(a, b batch.Batch) bool {
	if a.Seq != b.Seq || len(a.Changes) != len(b.Changes) {
		return false
	}
	for i, c := range a.Changes {
		d := b.Changes[i]
		if c.Kind != d.Kind || c.Key != d.Key || c.Value != d.Value {
			return false
		}
	}
	return true
}

// TestCheck: P6.1, the edges, and which error comes first; Bytes' is that, without bytes.
func TestCheck(t *testing.T) {
	odd := api.Change{Kind: 3, Key: "a"}
	for _, c := range []struct {
		what string
		b    batch.Batch
		want api.Errno
	}{
		{"the zero one", batch.Batch{}, api.OK},
		{"nothing, in a list", batch.Batch{Seq: 5, Changes: []api.Change{}}, api.OK},
		{"2000 changes", of(0, many(2000, put("a", "1"))...), api.OK},
		{"2001 changes", of(0, many(2001, put("a", "1"))...), api.ErrMany},
		{"very many changes", of(0, many(100000, put("a", "1"))...), api.ErrMany},
		{"the kind 0", of(0, api.Change{Key: "a"}), api.ErrKind},
		{"the zero change", of(0, api.Change{}), api.ErrKind},
		{"the kind 3", of(0, odd), api.ErrKind},
		{"the kind -1", of(0, api.Change{Kind: -1, Key: "a"}), api.ErrKind},
		{"a kind that is 1 in its lowest byte", of(0, api.Change{Kind: 257, Key: "a"}), api.ErrKind},
		{"a kind that is 2 in its lowest byte", of(0, api.Change{Kind: 2 - 1<<40, Key: "a"}), api.ErrKind},
		{"the least kind", of(0, api.Change{Kind: math.MinInt, Key: "a"}), api.ErrKind},
		{"no key", of(0, put("", "1")), api.ErrKey},
		{"no key of a Delete", of(0, del("")), api.ErrKey},
		{"a key of one byte", of(0, put("\x00", "")), api.OK},
		{"a key of 200", of(0, put(x(200), "")), api.OK},
		{"a key of 201", of(0, put(x(201), "")), api.ErrKey},
		{"a Delete's key of 200", of(0, del(x(200))), api.OK},
		{"a Delete's key of 201", of(0, del(x(201))), api.ErrKey},
		{"a value of 4096", of(0, put("a", x(4096))), api.OK},
		{"a value of 4097", of(0, put("a", x(4097))), api.ErrLong},
		{"a Delete's value", of(0, api.Change{Kind: api.Delete, Key: "a", Value: "1"}), api.ErrLong},
		{"a Delete's long value", of(0, api.Change{Kind: api.Delete, Key: "a", Value: x(5000)}), api.ErrLong},
		{"the greatest number, without changes", of(batch.Top), api.OK},
		{"above it, without changes", of(batch.Top + 1), api.ErrRange},
		{"the utmost, without changes", of(math.MaxUint64), api.ErrRange},
		{"the greatest number, one change", of(batch.Top, del("a")), api.OK},
		{"above it, one change", of(batch.Top+1, del("a")), api.ErrRange},
		{"the greatest number, two changes", of(batch.Top, del("a"), del("a")), api.ErrRange},
		{"one below, two changes", of(batch.Top-1, del("a"), del("a")), api.OK},
		{"one below, three changes", of(batch.Top-1, many(3, del("a"))...), api.ErrRange},
		{"2000 up to the greatest number", of(batch.Top-1999, many(2000, del("a"))...), api.OK},
		{"2000 up to above it", of(batch.Top-1998, many(2000, del("a"))...), api.ErrRange},
		{"the utmost, one change", of(math.MaxUint64, del("a")), api.ErrRange},
		{"the last number goes round", of(math.MaxUint64, del("a"), del("a")), api.ErrRange},
		{"the last number goes far round", of(math.MaxUint64-3, many(2000, del("a"))...), api.ErrRange},

		{"too many, all wrong", of(math.MaxUint64, many(2001, api.Change{Value: x(5000)})...), api.ErrMany},
		{"a kind, a key and a value", of(math.MaxUint64, api.Change{Kind: 3, Value: x(5000)}), api.ErrKind},
		{"a key and a value", of(math.MaxUint64, put("", x(5000))), api.ErrKey},
		{"a long key and a value", of(math.MaxUint64, put(x(201), x(5000))), api.ErrKey},
		{"a Delete's key and value", of(math.MaxUint64, api.Change{Kind: api.Delete, Value: "1"}), api.ErrKey},
		{"a value and the number", of(math.MaxUint64, put("a", x(5000))), api.ErrLong},
		{"a value, then a kind", of(0, put("a", x(5000)), odd), api.ErrLong},
		{"a key, then a kind", of(0, put("", "1"), odd), api.ErrKey},
		{"a kind, then a key", of(0, odd, put("", "1")), api.ErrKind},
		{"a value, then a key", of(0, put("a", x(5000)), put("", "1")), api.ErrLong},
		{"the last one's kind", of(math.MaxUint64, append(many(1999, del("a")), odd)...), api.ErrKind},
	} {
		want(t, c.what, c.b.Check(), c.want)
		s, e := c.b.Bytes()
		want(t, c.what+": Bytes", e, c.want)
		if e != api.OK {
			same(t, c.what+": bytes", s, "")
			continue
		}
		back, e := batch.Parse(s)
		want(t, c.what+": read again", e == api.OK && equal(back, c.b), true)
	}
}

// TestEntries: P6.2, in order, with their numbers, whatever they are.
func TestEntries(t *testing.T) {
	odd := api.Change{Kind: 77, Value: x(5000)}
	for _, c := range []struct {
		b    batch.Batch
		want []api.Entry
		next uint64
	}{
		{batch.Batch{}, nil, 0},
		{of(5), nil, 5},
		{of(math.MaxUint64), nil, math.MaxUint64},
		{of(5, put("a", "1"), del("b")), []api.Entry{{Key: "a", Seq: 5, Kind: api.Put, Value: "1"}, {Key: "b", Seq: 6, Kind: api.Delete}}, 7},
		{of(batch.Top, put("b", ""), put("a", "2")), []api.Entry{{Key: "b", Seq: batch.Top, Kind: api.Put}, {Key: "a", Seq: batch.Top + 1, Kind: api.Put, Value: "2"}}, batch.Top + 2},
		{of(math.MaxUint64, del("a")), []api.Entry{{Key: "a", Seq: math.MaxUint64, Kind: api.Delete}}, 0},
		{of(math.MaxUint64, del("a"), del("a"), odd), []api.Entry{{Key: "a", Seq: math.MaxUint64, Kind: api.Delete}, {Key: "a", Kind: api.Delete}, {Seq: 1, Kind: 77, Value: x(5000)}}, 2},
	} {
		if got := slices.Collect(c.b.Entries()); !slices.Equal(got, c.want) {
			t.Errorf("%v: %v, wanted %v", c.b, got, c.want)
		}
		want(t, "Next", c.b.Next(), c.next)
	}
	b := of(7, many(3000, put("a", "1"))...)
	n := b.Seq
	for e := range b.Entries() {
		want(t, "one of many", e, api.Entry{Key: "a", Seq: n, Kind: api.Put, Value: "1"})
		n++
	}
	want(t, "all of them", n, 3007)
	want(t, "Next of many", b.Next(), 3007)
}

// TestEntriesLeftOff: P6.2, the row is left anywhere, at once too, and begins anew.
func TestEntriesLeftOff(t *testing.T) {
	b := of(5, del("a"), del("b"), del("c"))
	row := b.Entries()
	for n := 1; n <= 3; n++ {
		seen := 0
		for e := range row {
			want(t, "number", e.Seq, uint64(5+seen))
			seen++
			if seen == n {
				break
			}
		}
		want(t, "seen", seen, n)
	}
	calls := 0
	row(func(api.Entry) bool { calls++; return false })
	want(t, "left off at once", calls, 1)
	want(t, "gone through again", len(slices.Collect(row)), 3)
}

// TestSame: P6.2, each part counts.
func TestSame(t *testing.T) {
	b := of(5, put("a", "1"), del("b"))
	for _, c := range []struct {
		what string
		a, b batch.Batch
		want bool
	}{
		{"zero", batch.Batch{}, batch.Batch{}, true},
		{"nil and an empty list", batch.Batch{}, batch.Batch{Changes: []api.Change{}}, true},
		{"the same", b, of(5, put("a", "1"), del("b")), true},
		{"itself", b, b, true},
		{"another number", b, of(6, put("a", "1"), del("b")), false},
		{"another number, without changes", of(5), of(6), false},
		{"another kind", b, of(5, api.Change{Kind: 2, Key: "a", Value: "1"}, del("b")), false},
		{"another key", b, of(5, put("A", "1"), del("b")), false},
		{"another value", b, of(5, put("a", "2"), del("b")), false},
		{"another last one", b, of(5, put("a", "1"), del("c")), false},
		{"a Delete's value", b, of(5, put("a", "1"), api.Change{Kind: 2, Key: "b", Value: "1"}), false},
		{"one less", b, of(5, put("a", "1")), false},
		{"one more", b, of(5, put("a", "1"), del("b"), del("b")), false},
		{"none", b, of(5), false},
		{"turned round", b, of(5, del("b"), put("a", "1")), false},
		{"batches that may not be", of(math.MaxUint64, api.Change{Kind: -1}), of(math.MaxUint64, api.Change{Kind: -1}), true},
		{"kinds that may not be", of(0, api.Change{Kind: 256}), of(0, api.Change{}), false},
	} {
		want(t, c.what, batch.Same(c.a, c.b), c.want)
		want(t, c.what+", the other way round", batch.Same(c.b, c.a), c.want)
	}
}

// TestMemory: what is handed in stays, spare room included; answers share none.
func TestMemory(t *testing.T) {
	l := []api.Change{put("a", "1"), del("b"), put("spare", "room")}
	kept := slices.Clone(l)
	b := of(5, l[:2]...)
	s, _ := b.Bytes()
	for range b.Entries() {
	}
	b.Check()
	b.Next()
	batch.Same(b, b)
	want(t, "the changes stay", slices.Equal(l, kept), true)
	p, _ := batch.Parse(s)
	q, _ := batch.Parse(s)
	p.Changes[0].Key = "z"
	_ = append(p.Changes, del("z"))
	want(t, "two answers", batch.Same(q, b), true)
}

// within: does a text stand in the memory of another one?
func within(s, whole string) bool {
	at, from := uintptr(unsafe.Pointer(unsafe.StringData(s))), uintptr(unsafe.Pointer(unsafe.StringData(whole)))
	return len(s) > 0 && at >= from && at < from+uintptr(len(whole))
}

// TestTextsOfTheirOwn: the texts of an answer, too, are new memory.
func TestTextsOfTheirOwn(t *testing.T) {
	b := of(5, put("key", "value"))
	for range 2 {
		for e := range b.Entries() {
			want(t, "an entry's", within(e.Key, b.Changes[0].Key) || within(e.Value, b.Changes[0].Value), false)
		}
	}
	s, _ := b.Bytes()
	p, _ := batch.Parse(s)
	want(t, "a batch's", within(p.Changes[0].Key, s) || within(p.Changes[0].Value, s), false)
}
