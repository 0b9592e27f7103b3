package block_test

import (
	"bytes"
	"encoding/binary"
	"fmt"
	"hash/crc32"
	"math"
	"math/bits"
	"slices"
	"strings"
	"testing"

	"bourse/api"
	"bourse/block"
)

// want: a test fails, if something is another thing than was wanted.
func want[T comparable](t *testing.T, what string, got, wanted T) {
	t.Helper()
	if got != wanted {
		t.Errorf("%s: %#v, wanted %#v", what, got, wanted)
	}
}

// short: bytes that a test can tell.
func short(s string) string {
	if len(s) > 80 {
		return s[:80]
	}
	return s
}

// same: as want, of bytes.
func same(t *testing.T, what, got, wanted string) {
	t.Helper()
	if got != wanted {
		t.Errorf("%s: %d bytes %x, wanted %d bytes %x", what, len(got), short(got), len(wanted), short(wanted))
	}
}

func entry(key string, seq uint64, kind int, value string) api.Entry {
	return api.Entry{Key: key, Seq: seq, Kind: kind, Value: value}
}

// order: layer 8's, told once more.
func order(a, b api.Entry) int {
	switch {
	case a.Key != b.Key:
		return strings.Compare(a.Key, b.Key)
	case a.Seq > b.Seq, a.Seq == b.Seq && a.Kind > b.Kind:
		return -1
	case a.Seq == b.Seq && a.Kind == b.Kind:
		return 0
	}
	return 1
}

// fixed: numbers of four bytes each.
func fixed(l ...uint32) string {
	var b []byte
	for _, n := range l {
		b = binary.LittleEndian.AppendUint32(b, n)
	}
	return string(b)
}

// sealed: bytes with their sum behind them, whatever they are.
func sealed(s string) string {
	sum := crc32.Checksum([]byte(s), crc32.MakeTable(crc32.Castagnoli))
	return s + fixed(bits.RotateLeft32(sum, 17)+0xa282ead8)
}

// shared: how many bytes of a key are those of the one ahead.
func shared(ahead, key string) int {
	n := 0
	for !strings.HasPrefix(key, ahead[:len(ahead)-n]) {
		n++
	}
	return len(ahead) - n
}

// written: the block of entries, told once more.
func written(l []api.Entry) string {
	var b []byte
	var starts []uint32
	for i, e := range l {
		n := 0
		if i%8 == 0 {
			starts = append(starts, uint32(len(b)))
		} else {
			n = shared(l[i-1].Key, e.Key)
		}
		b = binary.AppendUvarint(b, uint64(n))
		b = binary.AppendUvarint(b, uint64(len(e.Key)-n))
		b = append(b, e.Key[n:]...)
		b = binary.AppendUvarint(b, e.Seq)
		b = append(b, byte(e.Kind))
		b = binary.AppendUvarint(b, uint64(len(e.Value)))
		b = append(b, e.Value...)
	}
	return sealed(string(b) + fixed(starts...) + fixed(uint32(len(starts))))
}

// number: the one that bytes begin with, in just as many as it needs.
func number(b *bytes.Reader) (uint64, bool) {
	was := b.Len()
	n, err := binary.ReadUvarint(b)
	return n, err == nil && was-b.Len() == len(binary.AppendUvarint(nil, n))
}

// text: so many bytes.
func text(b *bytes.Reader, n uint64) (string, bool) {
	if n > uint64(b.Len()) {
		return "", false
	}
	s := make([]byte, n)
	b.Read(s)
	return string(s), true
}

// readEntry: the next one, whose key must tell all that it shares.
func readEntry(b *bytes.Reader, ahead string, start bool) (api.Entry, bool) {
	n, ok1 := number(b)
	m, ok2 := number(b)
	own, ok3 := text(b, m)
	seq, ok4 := number(b)
	kind, err := b.ReadByte()
	length, ok5 := number(b)
	value, ok6 := text(b, length)
	if !ok1 || !ok2 || !ok3 || !ok4 || err != nil || !ok5 || !ok6 || n > uint64(len(ahead)) {
		return api.Entry{}, false
	}
	key := ahead[:n] + own
	if start {
		return entry(key, seq, int(kind), value), n == 0
	}
	return entry(key, seq, int(kind), value), n == uint64(shared(ahead, key))
}

// readBlock: the entries of bytes that are a block, told once more, thing by thing; false, where they are none.
func readBlock(s string) ([]api.Entry, bool) {
	if len(s) < 8 || sealed(s[:len(s)-4]) != s {
		return nil, false
	}
	s = s[:len(s)-4]
	n := int(binary.LittleEndian.Uint32([]byte(s[len(s)-4:])))
	s = s[:len(s)-4]
	if 4*n > len(s) {
		return nil, false
	}
	told := s[len(s)-4*n:]
	b := bytes.NewReader([]byte(s[:len(s)-4*n]))
	var l []api.Entry
	places := ""
	ahead := ""
	for b.Len() > 0 {
		start := len(l)%8 == 0
		if start {
			places += fixed(uint32(int(b.Size()) - b.Len()))
		}
		e, ok := readEntry(b, ahead, start)
		if !ok || len(l) > 0 && order(l[len(l)-1], e) >= 0 {
			return nil, false
		}
		l = append(l, e)
		ahead = e.Key
	}
	return l, places == told
}

// chance: numbers that look like chance, and are the same in each run.
type chance uint64

func (c *chance) below(n int) int {
	*c = *c*6364136223846793005 + 1442695040888963407
	return int(uint64(*c>>33) % uint64(n))
}

// text: of few bytes, so that many begin alike.
func (c *chance) text(most int) string {
	b := make([]byte, c.below(most+1))
	for i := range b {
		b[i] = "\x00a\x01\xff\x80"[c.below(5)]
	}
	return string(b)
}

func (c *chance) entry() api.Entry {
	seqs := []uint64{0, 1, 2, 127, 128, 1 << 32, 1<<56 - 1, 1 << 63, math.MaxUint64}
	kinds := []int{0, 1, 2, 3, 127, 128, 255}
	return entry(c.text(4), seqs[c.below(len(seqs))], kinds[c.below(len(kinds))], c.text(3))
}

// list: so many entries or some fewer, rising.
func (c *chance) list(n int) []api.Entry {
	var l []api.Entry
	for range n {
		l = append(l, c.entry())
	}
	slices.SortFunc(l, order)
	return slices.CompactFunc(l, func(a, b api.Entry) bool { return order(a, b) == 0 })
}

// long: entries with keys and values of many bytes.
func (c *chance) long(n int) []api.Entry {
	var l []api.Entry
	head := ""
	for i := range n {
		if i%5 == 0 {
			head = strings.Repeat("k", c.below(400))
		}
		l = append(l, entry(head+c.text(300), uint64(i), c.below(256), strings.Repeat(c.text(3), c.below(500))))
	}
	slices.SortFunc(l, order)
	return l
}

// lists: many that Make takes.
func lists() [][]api.Entry {
	var c chance = 1
	l := [][]api.Entry{nil, {}}
	for n := range 40 {
		for range 8 {
			l = append(l, c.list(n))
		}
	}
	return append(l, c.list(2000), c.long(7), c.long(60), c.long(400))
}

// opened: a test ends, if bytes aren't a block.
func opened(t *testing.T, s string) *block.Block {
	t.Helper()
	b, e := block.Open(s)
	if b == nil || e != api.OK {
		t.Fatalf("Open of %x: %v", short(s), e)
	}
	return b
}

// made: the block of entries.
func made(t *testing.T, l []api.Entry) *block.Block {
	t.Helper()
	s, e := block.Make(l)
	want(t, fmt.Sprintf("Make of %d entries", len(l)), e, api.OK)
	return opened(t, s)
}

// TestMake: P10.1, all bytes; TestModel's reader takes them, too.
func TestMake(t *testing.T) {
	for _, l := range lists() {
		s, e := block.Make(l)
		same(t, fmt.Sprint(len(l), " entries"), s, written(l))
		want(t, "Make", e, api.OK)
		back, ok := readBlock(s)
		want(t, "the model's own", ok && slices.Equal(back, l), true)
	}
}

// TestMadeIsOpened: P10.3, as it was.
func TestMadeIsOpened(t *testing.T) {
	for _, l := range lists() {
		b := made(t, l)
		if got := slices.Collect(b.All()); !slices.Equal(got, l) {
			t.Errorf("%#v, wanted %#v", got, l)
		}
		want(t, "Len", b.Len(), len(l))
	}
}

// alter: bytes as they were, but for something.
func (c *chance) alter(s string) string {
	b := []byte(s)
	at := c.below(len(b) + 1)
	switch c.below(6) {
	case 0:
		return string(slices.Insert(b, at, "\x00\x01\x80\xff\x08a"[c.below(6)]))
	case 1:
		return string(slices.Delete(b, max(at-1, 0), at))
	case 2:
		return string(slices.Insert(b, at, make([]byte, 4)...))
	case 3:
		from := max(at-c.below(8), 0)
		return string(slices.Insert(b, c.below(len(b)+1), slices.Clone(b[from:at])...))
	}
	if at == len(b) {
		return s
	}
	b[at] = []byte{b[at] + 1, b[at] - 1, 0, 0x80 | b[at], byte(c.below(256))}[c.below(5)]
	return string(b)
}

// TestModel: P10.1, Open of bytes whose sum is right: a block is just what Make would write.
func TestModel(t *testing.T) {
	var c chance = 5
	taken, refused := 0, 0
	for range 60000 {
		s := written(c.list(c.below(20)))
		s = s[:len(s)-4]
		for range 1 + c.below(2) {
			s = c.alter(s)
		}
		if len(s) < 4 {
			continue
		}
		s = sealed(s)
		l, ok := readBlock(s)
		b, e := block.Open(s)
		if !ok {
			refused++
			if b != nil || e != api.ErrForm {
				t.Fatalf("Open of %x: %v", s, e)
			}
			continue
		}
		taken++
		if e != api.OK || !slices.Equal(slices.Collect(b.All()), l) {
			t.Fatalf("Open of %x: %v", s, e)
		}
		again, e := block.Make(l)
		want(t, "Make", e, api.OK)
		same(t, "made again", again, s)
	}
	if taken < 1000 || refused < 1000 {
		t.Errorf("%d blocks, %d others", taken, refused)
	}
}
