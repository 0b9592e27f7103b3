package tape_test

import (
	"fmt"
	"math"
	"slices"
	"strings"
	"testing"

	"bourse/api"
	"bourse/command"
	"bourse/frame"
	"bourse/tape"
)

// want: a test fails, if something is another thing than was wanted.
func want[T comparable](t *testing.T, what string, got, wanted T) {
	t.Helper()
	if got != wanted {
		t.Errorf("%s: %v, wanted %v", what, got, wanted)
	}
}

// list: as want, of lists.
func list[T comparable](t *testing.T, what string, got []T, wanted ...T) {
	t.Helper()
	if !slices.Equal(got, wanted) {
		t.Errorf("%s: %v, wanted %v", what, got, wanted)
	}
}

func deposit(account uint64, thing int, n int64) command.Op {
	return command.Op{Kind: command.Deposit, Account: account, Thing: thing, Size: n}
}

func withdraw(account uint64, thing int, n int64) command.Op {
	return command.Op{Kind: command.Withdraw, Account: account, Thing: thing, Size: n}
}

func limit(account uint64, side int, price, size int64) command.Op {
	return command.Op{Kind: command.Place, Account: account, Side: side, Type: api.Limit, Price: price, Size: size}
}

func tick(n uint64) command.Op { return command.Op{Kind: command.Tick, N: n} }

func money(account uint64) command.Op { return command.Op{Kind: command.Money, Account: account} }

// kinds: one operation of each kind, with all that it tells.
func kinds() []command.Op {
	return []command.Op{
		{Kind: command.Place, Account: 1, Side: 2, Type: 3, Price: 4, Size: 5, Expiry: 6},
		{Kind: command.Cancel, Account: 300, ID: 1 << 40},
		{Kind: command.Amend, Account: math.MaxUint64, ID: 1, Price: math.MinInt64, Size: math.MaxInt64},
		{Kind: command.Tick, N: math.MaxUint64},
		{Kind: command.Deposit, Account: 1, Thing: math.MaxInt32, Size: -1},
		{Kind: command.Withdraw, Account: 1, Thing: 1, Size: 1},
		{Kind: command.Depth, Side: math.MaxInt32, Most: 32},
		{Kind: command.Status},
		{Kind: command.Money, Account: 1},
	}
}

// laid: a log of records, whatever they are.
func laid(records ...string) string {
	log := ""
	for _, s := range records {
		log += frame.Lay(len(log), s)
	}
	return log
}

// record: an operation's bytes.
func record(t *testing.T, o command.Op) string {
	t.Helper()
	s, e := command.Bytes(o)
	want(t, fmt.Sprintf("the bytes of %+v", o), e, api.OK)
	return s
}

// tapeOf: operations that can be laid.
func tapeOf(t *testing.T, l ...command.Op) string {
	t.Helper()
	s, e := tape.Lay(l)
	want(t, "Lay", e, api.OK)
	return s
}

// told is one thing that Ops tells.
type told struct {
	o command.Op
	e api.Errno
}

// row: what Ops tells of a tape.
func row(s string) []told {
	var l []told
	for o, e := range tape.Ops(s) {
		l = append(l, told{o, e})
	}
	return l
}

// fine: operations, each with OK; and what is behind them.
func fine(l []command.Op, behind ...told) []told {
	var out []told
	for _, o := range l {
		out = append(out, told{o: o})
	}
	return append(out, behind...)
}

// broken: an error with a zero operation.
func broken(e api.Errno) told { return told{e: e} }

// TestLay is P36.1: each record is an operation's bytes, one behind the other.
func TestLay(t *testing.T) {
	for what, l := range map[string][]command.Op{"nothing": nil, "an empty list": {}} {
		s, e := tape.Lay(l)
		want(t, what, s, "")
		want(t, what+": error", e, api.OK)
	}
	want(t, "a Tick of 5", tapeOf(t, tick(5)), "\x94\x67\x0c\x2c\x02\x00\x01\x04\x05")
	want(t, "a Tick of 5 and a Money of 1", tapeOf(t, tick(5), money(1)), laid("\x04\x05", "\x09\x01"))
	var records []string
	for _, o := range kinds() {
		records = append(records, record(t, o))
	}
	want(t, "each kind", tapeOf(t, kinds()...), laid(records...))
	// Beyond a block there are noughts, and pieces of a record.
	many, records := slices.Repeat(kinds(), 40), slices.Repeat(records, 40)
	want(t, "many", tapeOf(t, many...), laid(records...))
}

// TestLayErrors is P36.1: the first error, and nothing.
func TestLayErrors(t *testing.T) {
	kind, form := command.Op{Kind: 10}, command.Op{Kind: command.Tick, Account: 1}
	for what, c := range map[string]struct {
		l []command.Op
		e api.Errno
	}{
		"no kind":                  {[]command.Op{{}}, api.ErrKind},
		"a kind beyond the last":   {[]command.Op{kind}, api.ErrKind},
		"a kind below 0":           {[]command.Op{{Kind: -1}}, api.ErrKind},
		"what isn't told":          {[]command.Op{form}, api.ErrForm},
		"a Side below 0":           {[]command.Op{{Kind: command.Depth, Side: -1}}, api.ErrForm},
		"a Most that is too much":  {[]command.Op{{Kind: command.Depth, Most: 1 << 31}}, api.ErrForm},
		"the last one":             {[]command.Op{tick(1), money(1), form}, api.ErrForm},
		"the first of two":         {[]command.Op{tick(1), form, kind}, api.ErrForm},
		"the first of two, turned": {[]command.Op{kind, form, tick(1)}, api.ErrKind},
	} {
		s, e := tape.Lay(c.l)
		want(t, what, e, c.e)
		want(t, what+": beside it", s, "")
	}
}

// TestOps is P36.1 and P36.3: what was laid is told so.
func TestOps(t *testing.T) {
	for _, l := range [][]command.Op{nil, {tick(5)}, {{Kind: command.Status}}, kinds(), slices.Repeat(kinds(), 40)} {
		s := tapeOf(t, l...)
		list(t, fmt.Sprint(len(l), " operations"), row(s), fine(l)...)
		want(t, fmt.Sprint(len(l), " operations: Whole"), tape.Whole(s), len(s))
	}
}

// TestOpsNone is P36.1: a record that is no operation ends it, with its error, whatever is behind it.
func TestOpsNone(t *testing.T) {
	ahead := []command.Op{tick(5), money(1)}
	for what, c := range map[string]struct {
		record string
		e      api.Errno
	}{
		"no bytes":              {"", api.ErrKind},
		"a kind of 0":           {"\x00", api.ErrKind},
		"a kind of 10":          {"\x0a\x01", api.ErrKind},
		"a kind of 255":         {"\xff", api.ErrKind},
		"what lacks":            {"\x04", api.ErrShort},
		"a number that lacks":   {"\x04\x80", api.ErrShort},
		"a number too long":     {"\x04\x85\x00", api.ErrForm},
		"a number too great":    {"\x04\xff\xff\xff\xff\xff\xff\xff\xff\xff\x02", api.ErrRange},
		"more than it tells":    {"\x04\x05\x06", api.ErrForm},
		"a Side above the most": {"\x07\x80\x80\x80\x80\x08\x01", api.ErrForm},
		"far more, in blocks":   {"\x04\x05" + strings.Repeat("\x00", 2000), api.ErrForm},
	} {
		_, e := command.Parse(c.record)
		want(t, what+": its own error", e, c.e)
		none := laid("\x04\x05", "\x09\x01", c.record)
		more := laid("\x04\x05", "\x09\x01", c.record, "\x04\x05", "\x00")
		end := len(tapeOf(t, ahead...))
		for how, s := range map[string]string{"at the end": none, "ahead of others": more, "ahead of bytes": none + "\x01\x02", "ahead of a cut one": more[:len(more)-3]} {
			list(t, what+" "+how, row(s), fine(ahead, broken(c.e))...)
			want(t, what+" "+how+": Whole", tape.Whole(s), end)
		}
		list(t, what+" alone", row(laid(c.record)), broken(c.e))
		want(t, what+" alone: Whole", tape.Whole(laid(c.record)), 0)
	}
}

// TestOpsLeft is P36.1: bytes behind the last record are ErrForm, once.
func TestOpsLeft(t *testing.T) {
	l := []command.Op{tick(5), money(1)}
	s := tapeOf(t, l...)
	turned := []byte(s)
	turned[len(s)-1] ^= 1
	for what, c := range map[string]struct {
		s string
		l []command.Op
	}{
		"one byte":            {s + "x", l},
		"one nought":          {s + "\x00", l},
		"noughts":             {s + strings.Repeat("\x00", 40), l},
		"noughts up to block": {s + strings.Repeat("\x00", 512-len(s)), l},
		"a record elsewhere":  {s + "\x00" + s, l},
		"a turned byte":       {string(turned), l[:1]},
		"behind a turned one": {string(turned) + laid("\x04\x05"), l[:1]},
		"the first one lacks": {s[1:], nil},
		"no record":           {"no record at all", nil},
		"one byte alone":      {"\x00", nil},
		"a Last alone":        {frame.Lay(505, "\x04\x05")[7:], nil},
	} {
		list(t, what, row(c.s), fine(c.l, broken(api.ErrForm))...)
		want(t, what+": Whole", tape.Whole(c.s), len(tapeOf(t, c.l...)))
	}
}

// TestLeftInABlock is P36.1: noughts that end a block are bytes that are no record, too.
func TestLeftInABlock(t *testing.T) {
	var l []command.Op
	s := ""
	for s = tapeOf(t, l...); len(s)%512 < 506; s = tapeOf(t, l...) { // up to a block of which fewer than seven bytes are left
		l = append(l, tick([]uint64{1, 1 << 7, 1 << 14}[len(l)%3]))
		if len(l) > 2000 {
			t.Fatal("no such tape")
		}
	}
	left := 512 - len(s)%512
	list(t, "up to there", row(s), fine(l)...)
	for n := 1; n <= left; n++ {
		list(t, fmt.Sprint(n, " noughts"), row(s+strings.Repeat("\x00", n)), fine(l, broken(api.ErrForm))...)
		want(t, fmt.Sprint(n, " noughts: Whole"), tape.Whole(s+strings.Repeat("\x00", n)), len(s))
	}
	next := s + frame.Lay(len(s), "\x09\x01")
	list(t, "with one more behind them", row(next), fine(append(l, money(1)))...)
	want(t, "with one more behind them: Whole", tape.Whole(next), len(next))
}

// TestCut is P36.3: a tape that is cut anywhere tells those operations that are whole ahead of the cut.
func TestCut(t *testing.T) {
	l := slices.Repeat(kinds(), 7)
	s, ends := "", []int{0}
	for _, o := range l {
		s += frame.Lay(len(s), record(t, o))
		ends = append(ends, len(s))
	}
	want(t, "the tape", tapeOf(t, l...), s)
	whole := 0
	for at := range len(s) + 1 {
		if whole < len(l) && ends[whole+1] == at {
			whole++
		}
		wanted := fine(l[:whole])
		if at > ends[whole] {
			wanted = append(wanted, broken(api.ErrForm))
		}
		list(t, fmt.Sprint("cut at ", at), row(s[:at]), wanted...)
		want(t, fmt.Sprint("cut at ", at, ": Whole"), tape.Whole(s[:at]), ends[whole])
	}
}

// TestTurned: of a tape with a turned byte those operations that are whole ahead of it.
func TestTurned(t *testing.T) {
	l := kinds()
	s := tapeOf(t, l...)
	whole := 0
	for at := range len(s) {
		for len(tapeOf(t, l[:whole+1]...)) <= at {
			whole++
		}
		b := []byte(s)
		b[at] ^= 0x10
		list(t, fmt.Sprint("turned at ", at), row(string(b)), fine(l[:whole], broken(api.ErrForm))...)
		want(t, fmt.Sprint("turned at ", at, ": Whole"), tape.Whole(string(b)), len(tapeOf(t, l[:whole]...)))
	}
}

// TestRow: Ops may be gone through as often as one likes, and left anywhere.
func TestRow(t *testing.T) {
	l := kinds()
	for _, s := range []string{tapeOf(t, l...), tapeOf(t, l...) + "x", laid("\x04\x05", "\x00"), "x"} {
		r, whole := tape.Ops(s), row(s)
		for n := range len(whole) + 1 {
			var got []told
			for o, e := range r {
				if len(got) == n {
					break
				}
				got = append(got, told{o, e})
			}
			list(t, fmt.Sprint(n, " of a row"), got, whole[:n]...)
		}
		var again []told
		for o, e := range r {
			again = append(again, told{o, e})
		}
		list(t, "the row once more", again, whole...)
	}
}

// TestUndo is P36.2: those of which keep says true, in order; all, of nil; each is asked once.
func TestUndo(t *testing.T) {
	l := kinds()
	kept := slices.Clone(l)
	list(t, "of nil", tape.Undo(l, nil), l...)
	list(t, "none", tape.Undo(l, func(command.Op) bool { return false }))
	list(t, "all", tape.Undo(l, func(command.Op) bool { return true }), l...)
	list(t, "what changes something", tape.Undo(l, func(o command.Op) bool { return !command.Reads(o.Kind) }), l[:6]...)
	list(t, "the middle", tape.Undo(l, func(o command.Op) bool { return o.Kind > 2 && o.Kind < 5 }), l[2:4]...)
	list(t, "twice each", tape.Undo(slices.Repeat(l[:2], 2), func(o command.Op) bool { return o.Kind == 2 }), l[1], l[1])
	list(t, "what can't be laid", tape.Undo([]command.Op{{Kind: 77}, {}}, func(o command.Op) bool { return o.Kind == 77 }), command.Op{Kind: 77})
	list(t, "of nothing", tape.Undo(nil, func(command.Op) bool { return true }))
	list(t, "of nothing and nil", tape.Undo(nil, nil))
	var asked []command.Op
	list(t, "each second one", tape.Undo(l, func(o command.Op) bool { asked = append(asked, o); return len(asked)%2 == 0 }), l[1], l[3], l[5], l[7])
	list(t, "who was asked", asked, l...)
	list(t, "what was handed in", l, kept...)
	for what, keep := range map[string]func(command.Op) bool{"nil": nil, "one that keeps all": func(command.Op) bool { return true }} {
		out := tape.Undo(l[:2], keep)
		out = append(out, tick(99))
		out[0] = tick(98)
		list(t, what+": what was handed in, spare room included", l, kept...)
	}
}

// TestUndoNoPanic is P1: a keep that panics doesn't say true.
func TestUndoNoPanic(t *testing.T) {
	l := kinds()
	got := tape.Undo(l, func(o command.Op) bool {
		if o.Kind == command.Cancel {
			panic("what now")
		}
		return o.Kind < command.Tick
	})
	list(t, "without the one", got, l[0], l[2])
}

// TestLayStays: what is handed in stays.
func TestLayStays(t *testing.T) {
	l := kinds()
	kept := slices.Clone(l)
	tape.Lay(l[:4])
	tape.Lay(append(l[:8:8], command.Op{Kind: 99}))
	list(t, "operations", l, kept...)
}
