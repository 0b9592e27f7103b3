package table_test

import (
	"encoding/binary"
	"fmt"
	"hash/crc32"
	"math"
	"math/big"
	"math/bits"
	"slices"
	"strings"
	"testing"

	"bourse/api"
	"bourse/block"
	"bourse/bloom"
	"bourse/table"
)

// want: a test fails, if something is another thing than was wanted.
func want[T comparable](t *testing.T, what string, got, wanted T) {
	t.Helper()
	if got != wanted {
		t.Errorf("%s: %#v, wanted %#v", what, got, wanted)
	}
}

// short: bytes that a test can tell.
func short(s string) string {
	if len(s) > 80 {
		return s[:80]
	}
	return s
}

// same: as want, of bytes.
func same(t *testing.T, what, got, wanted string) {
	t.Helper()
	if got != wanted {
		t.Errorf("%s: %d bytes %x, wanted %d bytes %x", what, len(got), short(got), len(wanted), short(wanted))
	}
}

func entry(key string, seq uint64, kind int, value string) api.Entry {
	return api.Entry{Key: key, Seq: seq, Kind: kind, Value: value}
}

// order: layer 8's, told once more.
func order(a, b api.Entry) int {
	switch {
	case a.Key != b.Key:
		return strings.Compare(a.Key, b.Key)
	case a.Seq > b.Seq, a.Seq == b.Seq && a.Kind > b.Kind:
		return -1
	case a.Seq == b.Seq && a.Kind == b.Kind:
		return 0
	}
	return 1
}

// sealed: bytes with their sum behind them, whatever they are.
func sealed(s string) string {
	sum := crc32.Checksum([]byte(s), crc32.MakeTable(crc32.Castagnoli))
	return string(binary.LittleEndian.AppendUint32([]byte(s), bits.RotateLeft32(sum, 17)+0xa282ead8))
}

// made: layer 10's block; a test that hands in what is none gets no bytes.
func made(l []api.Entry) string {
	s, _ := block.Make(l)
	return s
}

// told: an entry of an index.
func told(e api.Entry, at, length int) api.Entry {
	e.Value = string(binary.AppendUvarint(binary.AppendUvarint(nil, uint64(at)), uint64(length)))
	return e
}

// keys: those of entries, each once.
func keys(l []api.Entry) []string {
	var all []string
	for _, e := range l {
		if !slices.Contains(all, e.Key) {
			all = append(all, e.Key)
		}
	}
	return all
}

// pieces is a table's bytes, piece by piece, so that a test may have one of them otherwise.
type pieces struct {
	blocks  []string
	index   []api.Entry
	indexed string // the index's bytes
	filter  string
	numbers [5]uint64
	text    string
}

// parted: the pieces of a table whose data blocks have these entries.
func parted(parts ...[]api.Entry) pieces {
	p := pieces{text: "bourse.t"}
	at := 0
	for _, l := range parts {
		s := made(l)
		p.blocks = append(p.blocks, s)
		last := api.Entry{}
		if len(l) > 0 {
			last = l[len(l)-1]
		}
		p.index = append(p.index, told(last, at, len(s)))
		at += len(s)
	}
	all := slices.Concat(parts...)
	p.indexed, p.filter, p.numbers[4] = made(p.index), bloom.Make(keys(all)), uint64(len(all))
	return p.settled()
}

// settled: the index and the filter are told to stand where they do.
func (p pieces) settled() pieces {
	at := uint64(len(strings.Join(p.blocks, "")))
	index, filter := uint64(len(p.indexed)), uint64(len(p.filter))
	p.numbers = [5]uint64{at, index, at + index, filter, p.numbers[4]}
	return p
}

// foot: its bytes ahead of the sum.
func (p pieces) foot() string {
	var b []byte
	for _, n := range p.numbers {
		b = binary.LittleEndian.AppendUint64(b, n)
	}
	return string(b) + p.text
}

func (p pieces) bytes() string {
	return strings.Join(p.blocks, "") + p.indexed + p.filter + sealed(p.foot())
}

// blocks: entries by the blocks that Build makes of them, told once more, entry by entry.
func blocks(l []api.Entry, size int) [][]api.Entry {
	var parts [][]api.Entry
	from := 0
	for i := range l {
		if i > from && len(made(l[from:i+1])) > size {
			parts = append(parts, l[from:i])
			from = i
		}
	}
	return append(parts, l[from:])
}

// chance: numbers that look like chance, and are the same in each run.
type chance uint64

func (c *chance) below(n int) int {
	*c = *c*6364136223846793005 + 1442695040888963407
	return int(uint64(*c>>33) % uint64(n))
}

// text: of few bytes, so that many begin alike.
func (c *chance) text(most int) string {
	b := make([]byte, c.below(most+1))
	for i := range b {
		b[i] = "\x00a\x01\xff\x80"[c.below(5)]
	}
	return string(b)
}

func (c *chance) entry() api.Entry {
	seqs := []uint64{0, 1, 2, 127, 128, 1 << 32, 1<<56 - 1, 1 << 63, math.MaxUint64}
	kinds := []int{0, 1, 2, 3, 127, 128, 255}
	return entry(c.text(4), seqs[c.below(len(seqs))], kinds[c.below(len(kinds))], c.text(1+c.below(40)))
}

// list: so many entries or some fewer, rising.
func (c *chance) list(n int) []api.Entry {
	var l []api.Entry
	for range n {
		l = append(l, c.entry())
	}
	slices.SortFunc(l, order)
	return slices.CompactFunc(l, func(a, b api.Entry) bool { return order(a, b) == 0 })
}

// split: a list in parts of some entries each.
func (c *chance) split(l []api.Entry) [][]api.Entry {
	var parts [][]api.Entry
	for len(l) > 0 {
		n := 1 + c.below(min(len(l), 12))
		parts = append(parts, l[:n])
		l = l[n:]
	}
	return parts
}

// judge: what Open answers, told once more in the chapter's order, and the entries by their blocks.
func judge(s string) ([][]api.Entry, api.Errno) {
	if len(s) < 52 {
		return nil, api.ErrShort
	}
	data, foot := s[:len(s)-52], s[len(s)-52:]
	if sealed(foot[:48]) != foot {
		return nil, api.ErrSum
	}
	var n [5]*big.Int
	for i := range n {
		n[i] = new(big.Int).SetUint64(binary.LittleEndian.Uint64([]byte(foot[8*i:])))
	}
	end := func(i int) *big.Int { return new(big.Int).Add(n[i], n[i+1]) }
	if foot[40:48] != "bourse.t" || end(0).Cmp(n[2]) != 0 || end(2).Cmp(big.NewInt(int64(len(data)))) != 0 {
		return nil, api.ErrForm
	}
	index, filter := int(n[0].Int64()), int(n[2].Int64())
	b, e := block.Open(data[index:filter])
	if e != api.OK {
		return nil, e
	}
	listed := slices.Collect(b.All())
	parts, e := judgeBlocks(data[:index], listed)
	if e != api.OK {
		return nil, e
	}
	all := slices.Concat(parts...)
	rises := slices.IsSortedFunc(all, order) && len(slices.CompactFunc(slices.Clone(all), func(a, b api.Entry) bool { return order(a, b) == 0 })) == len(all)
	hollow := slices.ContainsFunc(parts, func(l []api.Entry) bool { return len(l) == 0 })
	just := parted(parts...)
	if len(all) == 0 || hollow || !rises || !slices.Equal(listed, just.index) || data[filter:] != just.filter || n[4].Cmp(big.NewInt(int64(len(all)))) != 0 || index != int(just.numbers[0]) {
		return nil, api.ErrForm
	}
	return parts, api.OK
}

// judgeBlocks: what Open answers of the data blocks that an index lists, and their entries.
func judgeBlocks(data string, listed []api.Entry) ([][]api.Entry, api.Errno) {
	var parts [][]api.Entry
	left := data
	for _, x := range listed {
		at, a := binary.Uvarint([]byte(x.Value))
		if a <= 0 || len(binary.AppendUvarint(nil, at)) != a || at != uint64(len(data)-len(left)) {
			return nil, api.ErrForm
		}
		length, c := binary.Uvarint([]byte(x.Value[a:]))
		if c <= 0 || len(binary.AppendUvarint(nil, length)) != c || length > uint64(len(left)) {
			return nil, api.ErrForm
		}
		b, e := block.Open(left[:length])
		if e != api.OK {
			return nil, e
		}
		parts = append(parts, slices.Collect(b.All()))
		left = left[length:]
	}
	return parts, api.OK
}

// alterBytes: bytes as they were, but for something; some of them have the right sum then.
func (c *chance) alterBytes(s string) string {
	b := []byte(s)
	at := c.below(len(b) + 1)
	switch c.below(4) {
	case 0:
		b = slices.Insert(b, at, "\x00\x01\x80\xff\x08a"[c.below(6)])
	case 1:
		b = slices.Delete(b, max(at-1, 0), at)
	case 2:
		b = b[:at]
	default:
		if at < len(b) {
			b[at] ^= 1 << c.below(8)
		}
	}
	if c.below(2) == 0 && len(b) >= 4 {
		return sealed(string(b[:len(b)-4]))
	}
	return string(b)
}

// alterIndex: its entries as they were, but for something.
func (c *chance) alterIndex(p pieces) pieces {
	if len(p.index) == 0 {
		return p
	}
	p.index = slices.Clone(p.index)
	i := c.below(len(p.index))
	e := &p.index[i]
	at, n := binary.Uvarint([]byte(e.Value))
	length, _ := binary.Uvarint([]byte(e.Value[max(n, 0):]))
	switch c.below(9) {
	case 0:
		e.Key += "\x00"
	case 1:
		e.Seq++
	case 2:
		e.Kind = (e.Kind + 1) % 256
	case 3:
		e.Value += "\x00"
	case 4:
		e.Value = e.Value[:c.below(len(e.Value)+1)]
	case 5:
		*e = told(*e, int(at)+c.below(3)-1, int(length))
	case 6:
		*e = told(*e, int(at), int(length)+c.below(3)-1)
	case 7:
		p.index = slices.Delete(p.index, i, i+1)
	case 8:
		p.index = append(p.index, told(entry("\xff\xff\xff\xff\xff", 0, 0, ""), int(at+length), c.below(9)))
	}
	p.indexed = made(p.index)
	return p
}

// alter: pieces as they were, but for something; mostly the foot tells where they stand then.
func (c *chance) alter(p pieces) pieces {
	switch c.below(8) {
	case 0:
		p.blocks = slices.Clone(p.blocks)
		i := c.below(len(p.blocks))
		p.blocks[i] = c.alterBytes(p.blocks[i])
	case 1, 2:
		p = c.alterIndex(p)
	case 3:
		p.indexed = c.alterBytes(p.indexed)
	case 4:
		p.filter = c.alterBytes(p.filter)
	case 5:
		i := c.below(4)
		p.numbers[i] += []uint64{1, math.MaxUint64, 1 << 63, 8}[c.below(4)]
		return p
	case 6:
		p.numbers[4] += []uint64{1, math.MaxUint64, 1 << 63}[c.below(3)]
	case 7:
		p.blocks = append(p.blocks, []string{"", "\x00", made(nil)}[c.below(3)])
	}
	return p.settled()
}

// some: pieces of a table, or nearly so: a block may have no entries, two may stand the wrong way round.
func (c *chance) some() pieces {
	parts := c.split(c.list(1 + c.below(30)))
	i := c.below(len(parts))
	switch c.below(8) {
	case 0:
		parts = slices.Insert(parts, i, []api.Entry{})
	case 1:
		// Their last ones still rise, so that the index is a block.
		if l := parts[i]; i > 0 && len(l) > 1 {
			parts[i] = append([]api.Entry{parts[i-1][0]}, l[1:]...)
		}
	}
	return parted(parts...)
}

// TestModel: P11.1, Open of tables and of what is none, with right sums and wrong ones: the error that comes first, or just the entries, block by block.
func TestModel(t *testing.T) {
	var c chance = 3
	seen := map[api.Errno]int{}
	for range 40000 {
		p := c.some()
		for range c.below(4) {
			p = c.alter(p)
		}
		s := p.bytes()
		parts, wanted := judge(s)
		u, e := table.Open(s)
		seen[wanted]++
		if e != wanted || (u != nil) != (wanted == api.OK) {
			t.Fatalf("Open of %x: %v, wanted %v", s, e, wanted)
		}
		all := slices.Concat(parts...)
		if !slices.Equal(slices.Collect(u.All()), all) || u.Len() != len(all) || u.Blocks() != len(parts) {
			t.Fatalf("Open of %x: other entries", s)
		}
	}
	for _, e := range []api.Errno{api.OK, api.ErrShort, api.ErrSum, api.ErrForm} {
		if seen[e] < 500 {
			t.Errorf("%v came %d times", e, seen[e])
		}
	}
}

// opened: a test ends, if bytes aren't a table.
func opened(t *testing.T, s string) *table.Table {
	t.Helper()
	u, e := table.Open(s)
	if u == nil || e != api.OK {
		t.Fatalf("Open of %x: %v", short(s), e)
	}
	return u
}

// built: a table of entries.
func built(t *testing.T, l []api.Entry, size int) *table.Table {
	t.Helper()
	s, e := table.Build(l, size)
	want(t, fmt.Sprintf("Build of %d entries, %d", len(l), size), e, api.OK)
	return opened(t, s)
}
