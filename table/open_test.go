package table_test

import (
	"fmt"
	"math"
	"slices"
	"strings"
	"testing"

	"bourse/api"
	"bourse/bloom"
	"bourse/table"
)

// refused: an error, and no table beside it.
func refused(t *testing.T, what, s string, wanted api.Errno) {
	t.Helper()
	u, e := table.Open(s)
	if u != nil || e != wanted {
		t.Errorf("%s: %v, a table: %v, wanted %v", what, e, u != nil, wanted)
	}
}

// with: pieces, of which one is otherwise; the foot tells where they stand.
func (p pieces) with(change func(*pieces)) pieces {
	p.blocks, p.index = slices.Clone(p.blocks), slices.Clone(p.index)
	change(&p)
	return p.settled()
}

// indexedAs: pieces with another index.
func (p pieces) indexedAs(change func([]api.Entry) []api.Entry) pieces {
	return p.with(func(p *pieces) {
		p.index = change(p.index)
		p.indexed = made(p.index)
	})
}

// three: the pieces of a table of three blocks, of 20, 10 and 30 entries.
func three() pieces {
	l := plain(60)
	return parted(l[:20], l[20:30], l[30:])
}

// turn: bytes, a bit of which is turned.
func turn(s string, at int) string {
	b := []byte(s)
	b[at/8] ^= 1 << (at % 8)
	return string(b)
}

// TestOpenShort: P11.1, of all lengths below 52, whatever the bytes; of 52 no more.
func TestOpenShort(t *testing.T) {
	s := three().bytes()
	none := pieces{text: "bourse.t"}
	for n := range 52 {
		refused(t, fmt.Sprint(n, " bytes 0"), strings.Repeat("\x00", n), api.ErrShort)
		refused(t, fmt.Sprint(n, " bytes 255"), strings.Repeat("\xff", n), api.ErrShort)
		refused(t, fmt.Sprint("the first ", n, " of a table"), s[:n], api.ErrShort)
		refused(t, fmt.Sprint("the last ", n, " of a table"), s[len(s)-n:], api.ErrShort)
		refused(t, fmt.Sprint("the last ", n, " of a foot alone"), none.bytes()[52-n:], api.ErrShort)
		if n >= 4 {
			refused(t, fmt.Sprint(n, " bytes with a right sum"), sealed(none.foot()[48-(n-4):]), api.ErrShort)
		}
	}
	refused(t, "52 bytes 0", strings.Repeat("\x00", 52), api.ErrSum)
	refused(t, "52 bytes of a table", s[:52], api.ErrSum)
	refused(t, "a table's foot alone", s[len(s)-52:], api.ErrForm)
	refused(t, "52 bytes 0 with a right sum", sealed(strings.Repeat("\x00", 48)), api.ErrForm)
	refused(t, "a foot alone, that tells so", none.bytes(), api.ErrShort) // the index has no eight bytes
}

// TestOpenSum: P11.1, of each bit of a foot turned; of tables cut, and with more behind them.
func TestOpenSum(t *testing.T) {
	for _, p := range []pieces{parted(plain(1)), three()} {
		s := p.bytes()
		opened(t, s)
		for at := 8 * (len(s) - 52); at < 8*len(s); at++ {
			refused(t, fmt.Sprint("bit ", at), turn(s, at), api.ErrSum)
		}
		for n := 52; n < len(s); n++ {
			refused(t, fmt.Sprint("cut to ", n), s[:n], api.ErrSum)
			refused(t, fmt.Sprint("cut from ", len(s)-n), s[len(s)-n:], api.ErrForm)
		}
		refused(t, "a byte more behind", s+"\x00", api.ErrSum)
		refused(t, "a byte more ahead", "\x00"+s, api.ErrForm)
		refused(t, "twice", s+s, api.ErrForm)
		refused(t, "a sum of nothing", s[:len(s)-4]+"\x00\x00\x00\x00", api.ErrSum)
	}
}

// TestOpenEachBit: P11.1, no bit of a table may be another one.
func TestOpenEachBit(t *testing.T) {
	p := three()
	s := p.bytes()
	data, filter, foot := len(strings.Join(p.blocks, "")), len(s)-52-len(p.filter), len(s)-52
	for at := range 8 * foot {
		wanted := api.ErrSum
		if at/8 >= filter {
			wanted = api.ErrForm
		}
		refused(t, fmt.Sprint("bit ", at, " of ", data, " and ", filter, " bytes"), turn(s, at), wanted)
	}
}

// TestOpenText: P11.1, another one with a right sum.
func TestOpenText(t *testing.T) {
	for _, text := range []string{"bourse.T", "Bourse.t", "bourse.s", "bourse t", "ourse.tb", "t.esruob", "\x00\x00\x00\x00\x00\x00\x00\x00"} {
		refused(t, text, three().with(func(p *pieces) { p.text = text }).bytes(), api.ErrForm)
	}
	opened(t, three().bytes())
}

// TestOpenPlaces: P11.1, a foot that tells other places of the index and the filter than those where they stand.
func TestOpenPlaces(t *testing.T) {
	p := three()
	for i := range 4 {
		for _, by := range []uint64{1, math.MaxUint64, 8, math.MaxUint64 - 7, 1 << 31, 1 << 32, 1 << 63} {
			q := p
			q.numbers[i] += by
			refused(t, fmt.Sprint("number ", i, ", more by ", by), q.bytes(), api.ErrForm)
		}
		for _, n := range []uint64{0, math.MaxUint64, 1 << 63, uint64(len(p.bytes()))} {
			q := p
			q.numbers[i] = n
			refused(t, fmt.Sprint("number ", i, " is ", n), q.bytes(), api.ErrForm)
		}
	}
	at, index, filter, filtered := p.numbers[0], p.numbers[1], p.numbers[2], p.numbers[3]
	end := filter + filtered
	for _, c := range []struct {
		what    string
		numbers [4]uint64
		want    api.Errno
	}{
		{"as it must be", [4]uint64{at, index, filter, filtered}, api.OK},
		{"the other way round", [4]uint64{filter, filtered, at, index}, api.ErrForm},
		{"the index from behind the filter, so that it goes round", [4]uint64{end + 8, -(end + 8) + filter, filter, filtered}, api.ErrForm},
		{"the index from the utmost number", [4]uint64{math.MaxUint64, filter + 1, filter, filtered}, api.ErrForm},
		{"the filter from behind the end, so that it goes round", [4]uint64{at, end + 8 - at, end + 8, math.MaxUint64 - 7}, api.ErrForm},
		{"the filter from the utmost number", [4]uint64{at, math.MaxUint64 - at, math.MaxUint64, end + 1}, api.ErrForm},
		{"both go round", [4]uint64{at, math.MaxUint64, at - 1, end - at + 1}, api.ErrForm},
		{"a gap between them", [4]uint64{at, index - 1, filter, filtered}, api.ErrForm},
		{"one within the other", [4]uint64{at, index + 1, filter, filtered}, api.ErrForm},
		{"a gap ahead of the foot", [4]uint64{at, index, filter, filtered - 1}, api.ErrForm},
		{"the foot is of the filter", [4]uint64{at, index, filter, filtered + 52}, api.ErrForm},
		{"the index a byte later", [4]uint64{at + 1, index - 1, filter, filtered}, api.ErrSum},
		{"the index a byte earlier", [4]uint64{at - 1, index + 1, filter, filtered}, api.ErrSum},
		{"the filter a byte earlier", [4]uint64{at, index - 1, filter - 1, filtered + 1}, api.ErrSum},
		{"the filter a byte later", [4]uint64{at, index + 1, filter + 1, filtered - 1}, api.ErrSum},
		{"the index has no byte", [4]uint64{at, 0, at, filtered + index}, api.ErrShort},
		{"the index has seven bytes", [4]uint64{at, 7, at + 7, filtered + index - 7}, api.ErrShort},
		{"the index has all bytes", [4]uint64{0, filter, filter, filtered}, api.ErrSum},
		{"neither has a byte", [4]uint64{end, 0, end, 0}, api.ErrShort},
		{"the last data block as the index", [4]uint64{at - uint64(len(p.blocks[2])), uint64(len(p.blocks[2])), at, filtered + index}, api.ErrForm},
	} {
		q := p
		copy(q.numbers[:], c.numbers[:])
		if c.want == api.OK {
			opened(t, q.bytes())
			continue
		}
		refused(t, c.what, q.bytes(), c.want)
	}
}

// TestOpenCount: P11.1, another one than there are entries.
func TestOpenCount(t *testing.T) {
	p := three()
	want(t, "entries", p.numbers[4], 60)
	for _, n := range []uint64{0, 1, 3, 59, 61, 60 + 1<<32, 60 + 1<<63, math.MaxUint64} {
		p.numbers[4] = n
		refused(t, fmt.Sprint("count ", n), p.bytes(), api.ErrForm)
	}
	p = parted(versions("one key", 30))
	p.numbers[4] = 1
	refused(t, "how many keys there are", p.bytes(), api.ErrForm)
}

// TestOpenIndex: P11.1, an index that is no block, or isn't that of the data blocks.
func TestOpenIndex(t *testing.T) {
	p := three()
	l := plain(60)
	body := p.indexed[:len(p.indexed)-4]
	for _, c := range []struct {
		what, indexed string
		want          api.Errno
	}{
		{"no byte", "", api.ErrShort},
		{"seven bytes", p.indexed[:7], api.ErrShort},
		{"cut", p.indexed[:len(p.indexed)-1], api.ErrSum},
		{"more behind it", p.indexed + "\x00", api.ErrSum},
		{"twice", p.indexed + p.indexed, api.ErrSum},
		{"a right sum, too many starts", sealed(body[:len(body)-4] + "\x02\x00\x00\x00"), api.ErrForm},
		{"a right sum, a byte more", sealed("\x00" + body), api.ErrForm},
	} {
		refused(t, c.what, p.with(func(p *pieces) { p.indexed = c.indexed }).bytes(), c.want)
	}
	first := func(change func(*api.Entry)) func([]api.Entry) []api.Entry {
		return func(l []api.Entry) []api.Entry {
			change(&l[0])
			return l
		}
	}
	n := [3]int{len(p.blocks[0]), len(p.blocks[1]), len(p.blocks[2])}
	for what, change := range map[string]func([]api.Entry) []api.Entry{
		"another key":                  first(func(e *api.Entry) { e.Key += "\x00" }),
		"a lesser key":                 first(func(e *api.Entry) { e.Key = l[0].Key }),
		"a key between the blocks":     first(func(e *api.Entry) { e.Key += "z" }),
		"a greater number":             first(func(e *api.Entry) { e.Seq++ }),
		"a lesser number":              first(func(e *api.Entry) { e.Seq-- }),
		"another kind":                 first(func(e *api.Entry) { e.Kind = 3 - e.Kind }),
		"the last entry's value":       first(func(e *api.Entry) { e.Value = "v" }),
		"no value":                     first(func(e *api.Entry) { e.Value = "" }),
		"a place alone":                first(func(e *api.Entry) { e.Value = "\x00" }),
		"a byte behind the length":     first(func(e *api.Entry) { e.Value += "\x00" }),
		"a length that isn't whole":    first(func(e *api.Entry) { e.Value = e.Value[:len(e.Value)-1] + "\x80" }),
		"a place told in two bytes":    first(func(e *api.Entry) { e.Value = "\x80" + e.Value }),
		"a place of eleven bytes":      first(func(e *api.Entry) { e.Value = strings.Repeat("\x80", 10) + e.Value }),
		"the first one's from 1 on":    first(func(e *api.Entry) { *e = told(*e, 1, n[0]-1) }),
		"the first one's as long":      first(func(e *api.Entry) { *e = told(*e, 1, n[0]) }),
		"longer than the data":         first(func(e *api.Entry) { *e = told(*e, 0, n[0]+n[1]+n[2]+1) }),
		"up to the foot":               first(func(e *api.Entry) { *e = told(*e, 0, len(p.bytes())-52) }),
		"longer than all":              first(func(e *api.Entry) { *e = told(*e, 0, len(p.bytes())+1) }),
		"as long as can be told":       first(func(e *api.Entry) { e.Value = "\x00\xff\xff\xff\xff\xff\xff\xff\xff\xff\x01" }),
		"2^63 bytes long":              first(func(e *api.Entry) { e.Value = "\x00\x80\x80\x80\x80\x80\x80\x80\x80\x80\x01" }),
		"from the utmost place on":     first(func(e *api.Entry) { e.Value = "\xff\xff\xff\xff\xff\xff\xff\xff\xff\x01\x01" }),
		"none of the last block":       func(l []api.Entry) []api.Entry { return l[:2] },
		"none of the first block":      func(l []api.Entry) []api.Entry { return l[1:] },
		"none of the block between":    func(l []api.Entry) []api.Entry { return []api.Entry{l[0], l[2]} },
		"none at all":                  func(l []api.Entry) []api.Entry { return nil },
		"one more, the last one again": func(l []api.Entry) []api.Entry { return append(l, told(entry("z", 0, 0, ""), n[0]+n[1], n[2])) },
		"one more, of the index":       func(i []api.Entry) []api.Entry { return append(i, told(entry("z", 0, 0, ""), n[0]+n[1]+n[2], 8)) },
		"the second one's a byte later": func(l []api.Entry) []api.Entry {
			l[1] = told(l[1], n[0]+1, n[1]-1)
			return l
		},
		"the second one's a byte earlier": func(l []api.Entry) []api.Entry {
			l[1] = told(l[1], n[0]-1, n[1]+1)
			return l
		},
		"the first block twice": func(l []api.Entry) []api.Entry {
			l[1] = told(l[1], 0, n[0])
			return l
		},
		"the last one's beyond the data": func(l []api.Entry) []api.Entry {
			l[2] = told(l[2], n[0]+n[1], n[2]+1)
			return l
		},
	} {
		refused(t, what, p.indexedAs(change).bytes(), api.ErrForm)
	}
	for what, c := range map[string]struct {
		length int
		want   api.Errno
	}{
		"no byte":              {0, api.ErrShort},
		"seven bytes":          {7, api.ErrShort},
		"eight bytes":          {8, api.ErrSum},
		"a byte less":          {n[0] - 1, api.ErrSum},
		"a byte more":          {n[0] + 1, api.ErrSum},
		"both blocks":          {n[0] + n[1], api.ErrSum},
		"all of the data":      {n[0] + n[1] + n[2], api.ErrSum},
		"a byte more than all": {n[0] + n[1] + n[2] + 1, api.ErrForm},
	} {
		refused(t, "the first block told to have "+what, p.indexedAs(first(func(e *api.Entry) { *e = told(*e, 0, c.length) })).bytes(), c.want)
	}
	opened(t, p.indexedAs(first(func(*api.Entry) {})).bytes())
}

// TestOpenData: P11.1, data blocks that are none, or don't stand one behind the other.
func TestOpenData(t *testing.T) {
	l := plain(60)
	p := three()
	loose := sealed(p.blocks[1][1 : len(p.blocks[1])-4]) // a right sum, and no block
	// told again: the index tells the blocks as long as they are, whatever they are.
	again := func(blocks ...string) pieces {
		return p.with(func(p *pieces) {
			p.blocks = blocks
			at := 0
			for i, b := range blocks {
				p.index[i] = told(p.index[i], at, len(b))
				at += len(b)
			}
			p.indexed = made(p.index)
		})
	}
	b := p.blocks
	for _, c := range []struct {
		what string
		p    pieces
		want api.Errno
	}{
		{"as they must be", again(b...), api.OK},
		{"the first of no byte", again("", b[1], b[2]), api.ErrShort},
		{"the second of seven bytes", again(b[0], b[1][:7], b[2]), api.ErrShort},
		{"the last cut", again(b[0], b[1], b[2][:len(b[2])-1]), api.ErrSum},
		{"the second turned", again(b[0], turn(b[1], 70), b[2]), api.ErrSum},
		{"the second no block", again(b[0], loose, b[2]), api.ErrForm},
		{"the second turned, the last short", again(b[0], turn(b[1], 70), b[2][:7]), api.ErrSum},
		{"the second short, the last turned", again(b[0], b[1][:7], turn(b[2], 70)), api.ErrShort},
		{"the first turned, the second no block", again(turn(b[0], 0), loose, b[2]), api.ErrSum},
		{"the first no block, the second turned", again(loose, turn(b[1], 0), b[2]), api.ErrForm},
		{"another one between", again(b[0], made(l[21:30]), b[2]), api.ErrForm},
		{"the second has no entries", again(b[0], made(nil), b[2]), api.ErrForm},
		{"the wrong way round", again(b[1], b[0], b[2]), api.ErrForm},
		{"the first one twice", again(b[0], b[0], b[2]), api.ErrForm},

		{"a gap ahead of all", p.with(func(p *pieces) { p.blocks[0] = "\x00" + p.blocks[0] }), api.ErrSum},
		{"a gap behind the first", p.with(func(p *pieces) { p.blocks[0] += "\x00" }), api.ErrSum},
		{"a gap behind the last", p.with(func(p *pieces) { p.blocks[2] += "\x00" }), api.ErrForm},
		{"a block behind the last", p.with(func(p *pieces) { p.blocks[2] += made(nil) }), api.ErrForm},
		{"no data", p.with(func(p *pieces) { p.blocks = nil }), api.ErrForm},
		{"the first alone", p.with(func(p *pieces) { p.blocks = p.blocks[:1] }), api.ErrForm},
		{"a gap, told so", p.indexedAs(func(l []api.Entry) []api.Entry {
			l[1], l[2] = told(l[1], len(b[0])+1, len(b[1])), told(l[2], len(b[0]+b[1])+1, len(b[2]))
			return l
		}).with(func(p *pieces) { p.blocks[0] += "\x00" }), api.ErrForm},
		{"a gap ahead of all, told so", p.indexedAs(func(l []api.Entry) []api.Entry {
			at := 1
			for i := range l {
				l[i] = told(l[i], at, len(b[i]))
				at += len(b[i])
			}
			return l
		}).with(func(p *pieces) { p.blocks[0] = "\x00" + p.blocks[0] }), api.ErrForm},
	} {
		if c.want == api.OK {
			opened(t, c.p.bytes())
			continue
		}
		refused(t, c.what, c.p.bytes(), c.want)
	}
}

// TestOpenParts: P11.1, a table's blocks may have any entries, but none; they rise from block to block.
func TestOpenParts(t *testing.T) {
	a, b, c, d := entry("a", 5, 1, "v"), entry("b", 5, 1, "v"), entry("c", 5, 1, "v"), entry("d", 5, 1, "v")
	type part = []api.Entry
	for _, k := range []struct {
		what  string
		parts []part
		want  api.Errno
	}{
		{"one block", []part{{a, b, c, d}}, api.OK},
		{"small and great ones", []part{{a}, {b, c, d}}, api.OK},
		{"the great one first", []part{{a, b, c}, {d}}, api.OK},
		{"one key in two", []part{{a}, {entry("a", 4, 2, "")}}, api.OK},
		{"one key and number in two", []part{{entry("a", 5, 2, "")}, {a}}, api.OK},
		{"the second pair between the first", []part{{a, c}, {b, d}}, api.ErrForm},
		{"one begins as the one ahead ends", []part{{a, b}, {b, c}}, api.ErrForm},
		{"another value alone", []part{{a, b}, {entry("b", 5, 1, "w"), c}}, api.ErrForm},
		{"a greater number", []part{{a}, {entry("a", 6, 1, ""), b}}, api.ErrForm},
		{"a greater kind", []part{{a}, {entry("a", 5, 2, ""), b}}, api.ErrForm},
		{"the first again", []part{{a, b}, {a, c}}, api.ErrForm},
		{"the last block falls", []part{{a}, {b, c}, {a, d}}, api.ErrForm},
		{"no block", nil, api.ErrForm},
		{"one of no entries alone", []part{{}}, api.ErrForm},
		{"one of no entries first", []part{{}, {a, b}}, api.ErrForm},
		{"one of no entries first, as the zero one", []part{{}, {{}, a, b}}, api.ErrForm},
		{"one of no entries behind that of the greatest zero one", []part{{{Seq: 1}}, {}, {a}}, api.ErrForm},
	} {
		s := parted(k.parts...).bytes()
		if k.want == api.OK {
			u := opened(t, s)
			ends(t, u, slices.Concat(k.parts...), len(k.parts))
			continue
		}
		refused(t, k.what, s, k.want)
	}
	// Of a block of no entries the index tells one that isn't there.
	hollow := parted([]api.Entry{a}, nil, []api.Entry{b}).indexedAs(func(l []api.Entry) []api.Entry {
		l[1].Key = "aa"
		return l
	})
	refused(t, "one of no entries between", hollow.bytes(), api.ErrForm)
}

// TestOpenFilter: P11.1, another one than that of the keys.
func TestOpenFilter(t *testing.T) {
	p := three()
	all := keys(plain(60))
	for what, filter := range map[string]string{
		"none":                "",
		"all bits":            strings.Repeat("\xff", len(p.filter)),
		"no bits":             strings.Repeat("\x00", len(p.filter)),
		"a byte more":         p.filter + "\x00",
		"a byte less":         p.filter[:len(p.filter)-1],
		"without a key":       bloom.Make(all[1:]),
		"one key more":        bloom.Make(append(slices.Clone(all), "more")),
		"one key twice":       bloom.Make(append(slices.Clone(all), all[0])),
		"each key twice":      bloom.Make(append(slices.Clone(all), all...)),
		"of no keys":          bloom.Make(nil),
		"another key for one": bloom.Make(append([]string{"other"}, all[1:]...)),
	} {
		refused(t, what, p.with(func(p *pieces) { p.filter = filter }).bytes(), api.ErrForm)
	}
	l := versions("one key", 40)
	q := parted(l[:20], l[20:])
	q.filter = bloom.Make(slices.Repeat([]string{"one key"}, 40))
	refused(t, "a key for each of its entries", q.settled().bytes(), api.ErrForm)
}

// TestOpenFirst: P11.1, which error comes first, where several could.
func TestOpenFirst(t *testing.T) {
	p := three()
	sum := func(p *pieces) { p.blocks[2] = turn(p.blocks[2], 5) }
	short := func(p *pieces) {
		p.index[2] = told(p.index[2], len(p.blocks[0]+p.blocks[1]), 3)
		p.indexed = made(p.index)
	}
	index := func(p *pieces) { p.indexed = turn(p.indexed, 5) }
	key := func(p *pieces) {
		p.index[0].Key += "\x00"
		p.indexed = made(p.index)
	}
	longer := func(p *pieces) {
		p.index[0].Value += "\x00"
		p.indexed = made(p.index)
	}
	place := func(p *pieces) {
		p.index[1] = told(p.index[1], len(p.blocks[0])+1, len(p.blocks[1])-1)
		p.indexed = made(p.index)
	}
	filter := func(p *pieces) { p.filter = "" }
	count := func(p *pieces) { p.numbers[4]++ }
	text := func(p *pieces) { p.text = "bourse.s" }
	none := func(p *pieces) {
		p.blocks[1] = made(nil)
		p.index[1] = told(p.index[1], len(p.blocks[0]), len(p.blocks[1]))
		p.index[2] = told(p.index[2], len(p.blocks[0]+p.blocks[1]), len(p.blocks[2]))
		p.indexed = made(p.index)
	}
	for _, c := range []struct {
		what    string
		changes []func(*pieces)
		want    api.Errno
	}{
		{"the text ahead of the index", []func(*pieces){text, index}, api.ErrForm},
		{"the text ahead of a data block", []func(*pieces){text, sum}, api.ErrForm},
		{"the index ahead of a data block", []func(*pieces){short, index}, api.ErrSum},
		{"the index ahead of the filter and the count", []func(*pieces){index, filter, count}, api.ErrSum},
		{"a data block that is short ahead of the count", []func(*pieces){short, count}, api.ErrShort},
		{"a data block ahead of the filter", []func(*pieces){sum, filter}, api.ErrSum},
		{"a data block ahead of the index's key of another one", []func(*pieces){sum, key}, api.ErrSum},
		{"a data block ahead of what the index tells beyond it", []func(*pieces){sum, longer}, api.ErrSum},
		{"a data block ahead of one of no entries", []func(*pieces){sum, none}, api.ErrSum},
		{"a block that stands elsewhere ahead of the next one's sum", []func(*pieces){sum, place}, api.ErrForm},
		{"the count alone", []func(*pieces){count}, api.ErrForm},
	} {
		q := p.with(func(p *pieces) {
			for _, change := range c.changes {
				change(p)
			}
		})
		refused(t, c.what, q.bytes(), c.want)
		s := q.bytes()
		refused(t, c.what+", behind the foot's sum", turn(s, 8*len(s)-1), api.ErrSum)
		refused(t, c.what+", behind the index's place", func() string {
			q.numbers[0]++
			return q.bytes()
		}(), api.ErrForm)
	}
}

// TestOpenOfTheirOwn: two tables of the same bytes tell the same, and are two.
func TestOpenOfTheirOwn(t *testing.T) {
	s := three().bytes()
	x, y := opened(t, s), opened(t, s)
	want(t, "two tables", x != y, true)
	ends(t, x, plain(60), 3)
	ends(t, y, plain(60), 3)
}
