package frame_test

import (
	"fmt"
	"math"
	"math/big"
	"strings"
	"testing"

	"bourse/frame"
)

// TestLayByHand: P5.1, the chapter's example, all of its bytes; and a record without any.
func TestLayByHand(t *testing.T) {
	hi := frame.Lay(0, "hi")
	same(t, "hi", hi, "\x8b\x6e\xac\xe0\x02\x00\x01hi")
	same(t, "nothing", frame.Lay(0, ""), "\x05\x2b\x28\x43\x00\x00\x01")
	same(t, "a length of two bytes", frame.Lay(0, filled(300))[4:7], "\x2c\x01\x01")
}

// part: what is laid, noughts or a piece.
type part struct {
	kind   byte // 0: noughts
	length int
}

// shapes: what a record of so many bytes becomes behind so many bytes.
func shapes() []struct {
	at, n int
	parts []part
} {
	return []struct {
		at, n int
		parts []part
	}{
		{0, 0, []part{{full, 0}}},
		{0, 1, []part{{full, 1}}},
		{0, 504, []part{{full, 504}}},
		{0, 505, []part{{full, 505}}},
		{0, 506, []part{{first, 505}, {last, 1}}},
		{0, 1010, []part{{first, 505}, {last, 505}}},
		{0, 1011, []part{{first, 505}, {middle, 505}, {last, 1}}},
		{0, 2020, []part{{first, 505}, {middle, 505}, {middle, 505}, {last, 505}}},
		{9, 0, []part{{full, 0}}},
		{9, 496, []part{{full, 496}}},
		{9, 497, []part{{first, 496}, {last, 1}}},
		{503, 2, []part{{full, 2}}},
		{504, 1, []part{{full, 1}}},
		{504, 2, []part{{first, 1}, {last, 1}}},
		// Seven bytes are left: a piece stands there, without bytes of its own.
		{505, 0, []part{{full, 0}}},
		{505, 1, []part{{first, 0}, {last, 1}}},
		{505, 505, []part{{first, 0}, {last, 505}}},
		{505, 506, []part{{first, 0}, {middle, 505}, {last, 1}}},
		// Six to one: noughts.
		{506, 0, []part{{0, 6}, {full, 0}}},
		{506, 505, []part{{0, 6}, {full, 505}}},
		{506, 506, []part{{0, 6}, {first, 505}, {last, 1}}},
		{507, 1, []part{{0, 5}, {full, 1}}},
		{508, 1, []part{{0, 4}, {full, 1}}},
		{509, 1, []part{{0, 3}, {full, 1}}},
		{510, 1, []part{{0, 2}, {full, 1}}},
		{511, 0, []part{{0, 1}, {full, 0}}},
		{511, 1, []part{{0, 1}, {full, 1}}},
		// None: another block, and no noughts.
		{512, 0, []part{{full, 0}}},
		{512, 506, []part{{first, 505}, {last, 1}}},
		{1024, 1, []part{{full, 1}}},
		{512 + 505, 1, []part{{first, 0}, {last, 1}}},
		{512 + 506, 1, []part{{0, 6}, {full, 1}}},
		{512<<20 + 511, 1, []part{{0, 1}, {full, 1}}},
		// Below 0 as 0.
		{-1, 505, []part{{full, 505}}},
		{-6, 506, []part{{first, 505}, {last, 1}}},
		{-512, 0, []part{{full, 0}}},
		{math.MinInt, 1, []part{{full, 1}}},
		// The utmost: one byte is left in its block.
		{math.MaxInt, 0, []part{{0, 1}, {full, 0}}},
		{math.MaxInt, 506, []part{{0, 1}, {first, 505}, {last, 1}}},
		{math.MaxInt - 5, 1, []part{{0, 6}, {full, 1}}},
		{math.MaxInt - 6, 1, []part{{first, 0}, {last, 1}}},
		{math.MaxInt - 511, 505, []part{{full, 505}}},
	}
}

// TestShapes: P5.1, by hand.
func TestShapes(t *testing.T) {
	for _, c := range shapes() {
		what := fmt.Sprintf("%d bytes behind %d", c.n, c.at)
		record := filled(c.n)
		wanted, left := "", record
		for _, p := range c.parts {
			if p.kind == 0 {
				wanted += strings.Repeat("\x00", p.length)
				continue
			}
			wanted += piece(p.kind, left[:p.length])
			left = left[p.length:]
		}
		want(t, what+": the test's own", left, "")
		same(t, what, frame.Lay(c.at, record), wanted)
		want(t, what+": Len", frame.Len(c.at, c.n), len(wanted))
	}
}

// TestLayModel: P5.1, behind all that a block can have, records about the lengths at which a piece more is needed; Len beside them.
func TestLayModel(t *testing.T) {
	for at := range 2 * block {
		left := (block - at%block) % block // up to the next block
		for _, n := range []int{0, 1, left - head - 1, left - head, left - head + 1, left + 497, left + 498, left + 499, left + 503, left + 504, 1009, 1010, 1011, left + 1003} {
			if n < 0 || at >= block && n > 520 {
				continue
			}
			record := filled(n)
			got := frame.Lay(at, record)
			same(t, fmt.Sprintf("%d bytes behind %d", n, at), got, laid(at, record))
			want(t, fmt.Sprintf("Len(%d, %d)", at, n), frame.Len(at, n), len(got))
		}
		if t.Failed() {
			return
		}
	}
}

// lenOf: Len, piece by piece.
func lenOf(at, n int) int {
	at %= block
	from := at
	for block-at%block < head {
		at++
	}
	for {
		own := min(n, block-at%block-head)
		at += head + own
		n -= own
		if n == 0 {
			return at - from
		}
	}
}

// TestLenAll: P5.1, of all lengths up to some blocks, behind all that a block can have.
func TestLenAll(t *testing.T) {
	for at := range block {
		for n := range 1600 {
			if got, wanted := frame.Len(at, n), lenOf(at, n); got != wanted {
				t.Fatalf("Len(%d, %d): %d, wanted %d", at, n, got, wanted)
			}
		}
	}
}

// lenBig: Len without an end: what is more than two blocks have is whole blocks.
func lenBig(at, n int) *big.Int {
	blocks := max(n-506, 0) / 505
	l := new(big.Int).Mul(big.NewInt(int64(blocks)), big.NewInt(block))
	return l.Add(l, big.NewInt(int64(lenOf(at, n-505*blocks))))
}

// TestLenEnds: P5.1, numbers at the ends: nothing goes round, and what is more than an int has is the greatest one.
func TestLenEnds(t *testing.T) {
	edge := math.MaxInt / block * 505 // about where it becomes too much
	for _, at := range []int{0, 1, 505, 506, 511, 512, -1, math.MinInt, math.MaxInt, math.MaxInt - 6} {
		for _, n := range []int{0, 1 << 31, 1 << 40, math.MaxInt / 2, edge - 600, edge, edge + 504, edge + 505, edge + 506, edge + 2000, math.MaxInt - 7, math.MaxInt - 1, math.MaxInt} {
			wanted := lenBig(max(at, 0), n)
			if !wanted.IsInt64() {
				wanted = big.NewInt(math.MaxInt)
			}
			want(t, fmt.Sprintf("Len(%d, %d)", at, n), fmt.Sprint(frame.Len(at, n)), wanted.String())
		}
		want(t, fmt.Sprintf("Len(%d, -1)", at), frame.Len(at, -1), frame.Len(at, 0))
		want(t, fmt.Sprintf("Len(%d, the least)", at), frame.Len(at, math.MinInt), frame.Len(at, 0))
	}
}

// TestLayLong: P5.1, a record of very many pieces.
func TestLayLong(t *testing.T) {
	record := filled(3 << 20)
	log := frame.Lay(0, "ahead")
	log += frame.Lay(len(log), record)
	want(t, "Len", len(log), 12+frame.Len(12, len(record)))
	tells(t, "a long record", log, []told{{"ahead", 12}, {record, len(log)}})
}
