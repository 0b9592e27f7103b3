package memo_test

import (
	"fmt"
	"math"
	"slices"
	"strings"
	"testing"

	"bourse/api"
	"bourse/memo"
)

// model: entries as a list that is sorted anew each time.
type model []api.Entry

// order: told once more, by the chapter's words.
func order(a, b api.Entry) int {
	switch {
	case a.Key < b.Key:
		return -1
	case a.Key > b.Key:
		return 1
	case a.Seq > b.Seq:
		return -1
	case a.Seq < b.Seq:
		return 1
	case a.Kind > b.Kind:
		return -1
	case a.Kind < b.Kind:
		return 1
	}
	return 0
}

func (m *model) add(e api.Entry) {
	*m = slices.DeleteFunc(*m, func(x api.Entry) bool { return order(x, e) == 0 })
	*m = append(*m, e)
	slices.SortFunc(*m, order)
}

func (m model) within(takes func(api.Entry) bool) []api.Entry {
	var l []api.Entry
	for _, e := range m {
		if takes(e) {
			l = append(l, e)
		}
	}
	return l
}

func (m model) bytes() int {
	n := 0
	for _, e := range m {
		n += len(e.Key) + len(e.Value) + 8
	}
	return n
}

// check: all that a memo tells is the model's.
func (m model) check(t *testing.T, got *memo.Memo, keys []string, numbers []uint64) {
	t.Helper()
	want(t, "Len", got.Len(), len(m))
	want(t, "Bytes", got.Bytes(), m.bytes())
	row(t, "All", got.All(), m...)
	for _, k := range keys {
		row(t, fmt.Sprintf("From(%q)", k), got.From(k), m.within(func(e api.Entry) bool { return e.Key >= k })...)
		down := m.within(func(e api.Entry) bool { return k == "" || e.Key <= k })
		slices.Reverse(down)
		row(t, fmt.Sprintf("Down(%q)", k), got.Down(k), down...)
		for _, at := range numbers {
			l := m.within(func(e api.Entry) bool { return e.Key == k && e.Seq <= at })
			if len(l) == 0 {
				unseen(t, got, k, at)
			} else {
				seen(t, got, k, at, l[0])
			}
		}
	}
}

// chance: numbers that look like chance, and are the same in each run.
type chance uint64

func (c *chance) below(n int) int {
	*c = *c*6364136223846793005 + 1442695040888963407
	return int(uint64(*c>>33) % uint64(n))
}

func (c *chance) text(least, most int) string {
	b := make([]byte, least+c.below(most-least+1))
	for i := range b {
		b[i] = "\x00a\x01\xff"[c.below(4)]
	}
	return string(b)
}

// TestModel: P8.2, entries of few keys and numbers in many orders, at each step.
func TestModel(t *testing.T) {
	numbers := []uint64{0, 1, 2, 255, 256, 1 << 32, top - 1, top}
	asked := append([]uint64{3, 254, 1<<32 - 1, top + 1, 1<<63 - 1, 1 << 63, math.MaxUint64}, numbers...)
	for run := range 40 {
		c := chance(run)
		var m model
		got := memo.New()
		for range 40 {
			e := api.Entry{Key: c.text(1, 2), Seq: numbers[c.below(len(numbers))], Kind: 1 + c.below(2), Value: c.text(0, 5)}
			want(t, "Add", got.Add(e, c.below(16)-2), api.OK)
			m.add(e)
			m.check(t, got, []string{e.Key, c.text(0, 3), ""}, asked)
		}
		if t.Failed() {
			t.Fatalf("run %d", run)
		}
	}
}

// TestModelOfLongKeys: P8.2, keys up to 85 bytes, asked with longer ones.
func TestModelOfLongKeys(t *testing.T) {
	var c chance = 7
	var m model
	got := memo.New()
	key := func(most int) string {
		s := []string{"\x00", "x", "\xff"}[c.below(3)]
		return strings.Repeat(s, 83) + c.text(0, most-83)
	}
	for i := range 300 {
		e := put(key(85), uint64(c.below(3)), c.text(0, 5))
		want(t, "Add", got.Add(e, c.below(5)), api.OK)
		m.add(e)
		if i%10 == 0 {
			m.check(t, got, []string{"", key(85), key(86), key(87), key(300), c.text(100, 300)}, []uint64{0, 1, 2, math.MaxUint64})
		}
	}
}

// TestHeightsTellNothing: P8.2, memos of the same entries tell the same, whatever the towers' heights.
func TestHeightsTellNothing(t *testing.T) {
	flat, high, mixed := memo.New(), memo.New(), memo.New()
	var c chance = 3
	var m model
	for i := range 400 {
		e := api.Entry{Key: c.text(1, 4), Seq: uint64(c.below(50)), Kind: 1 + c.below(2), Value: c.text(0, 9)}
		m.add(e)
		flat.Add(e, 1)
		high.Add(e, 12)
		mixed.Add(e, i%17-2)
	}
	for _, got := range []*memo.Memo{flat, high, mixed} {
		m.check(t, got, []string{"", "a", "aa", "\x00\x00", "\xff"}, []uint64{0, 10, 49, 50})
	}
}
