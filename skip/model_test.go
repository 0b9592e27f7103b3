package skip_test

import (
	"fmt"
	"maps"
	"math"
	"slices"
	"testing"

	"bourse/api"
	"bourse/skip"
)

// model: what a list must tell, by the library's map and its sorting.
type model struct {
	values  map[string]string
	heights map[string]int
}

func newModel() model { return model{map[string]string{}, map[string]int{}} }

func (m model) put(key, value string, height int) {
	if _, there := m.values[key]; !there {
		m.heights[key] = min(max(height, 1), 12)
	}
	m.values[key] = value
}

// within: the pairs whose keys a test takes, rising.
func (m model) within(takes func(string) bool) []api.Pair {
	var l []api.Pair
	for _, k := range slices.Sorted(maps.Keys(m.values)) {
		if takes(k) {
			l = append(l, of(k, m.values[k]))
		}
	}
	return l
}

func (m model) from(key string) []api.Pair {
	return m.within(func(k string) bool { return k >= key })
}

func (m model) down(key string) []api.Pair {
	l := m.within(func(k string) bool { return key == "" || k <= key })
	slices.Reverse(l)
	return l
}

func (m model) bytes() int {
	n := 0
	for k, v := range m.values {
		n += len(k) + len(v)
	}
	return n
}

// check: all that a list tells is the model's; each search is within its bound.
func (m model) check(t *testing.T, l *skip.List, probes []string) {
	t.Helper()
	want(t, "Len", l.Len(), len(m.values))
	want(t, "Bytes", l.Bytes(), m.bytes())
	for _, k := range probes {
		v, there := m.values[k]
		get(t, l, k, v, there)
		bound(t, l)
		want(t, "Height", l.Height(k), m.heights[k])
		row(t, fmt.Sprintf("From(%q)", k), l.From(k), m.from(k)...)
		bound(t, l)
		row(t, fmt.Sprintf("Down(%q)", k), l.Down(k), m.down(k)...)
		bound(t, l)
	}
}

// bound: P7.2, at most as many steps as there are towers, and one more for each level.
func bound(t *testing.T, l *skip.List) {
	t.Helper()
	if n := l.Steps(); n < 0 || n > l.Len()+api.MaxHeight {
		t.Errorf("%d steps of %d towers", n, l.Len())
	}
}

// orders: all orders of some texts.
func orders(l []string) [][]string {
	if len(l) == 0 {
		return [][]string{nil}
	}
	var all [][]string
	for i := range l {
		rest := slices.Delete(slices.Clone(l), i, i+1)
		for _, o := range orders(rest) {
			all = append(all, append(o, l[i]))
		}
	}
	return all
}

// schedules: heights of towers, in turn.
func schedules() [][]int {
	return [][]int{{1}, {12}, {1, 2, 3, 4, 5}, {12, 1}, {5, 4, 3, 2, 1}, {-7, 40, 2}, {1, 1, 3}, {math.MaxInt, math.MinInt}}
}

// TestAllOrders: P7.1 and P7.2, of keys put in all orders, and once more, at each step.
func TestAllOrders(t *testing.T) {
	keys := []string{"", "a", "a\x00", "b", "\xff"}
	probes := append([]string{"\x00", "a\x00\x00", "aa", "c", "\xff\x00", "\xff\xff"}, keys...)
	for _, order := range orders(keys) {
		for _, heights := range schedules() {
			l, m := skip.New(), newModel()
			m.check(t, l, probes)
			for i, k := range append(slices.Clone(order), order[2], order[0]) {
				value, height := fmt.Sprint(k, i), heights[i%len(heights)]
				put(t, l, k, value, height)
				bound(t, l)
				m.put(k, value, height)
				m.check(t, l, probes)
			}
			if t.Failed() {
				t.Fatalf("keys %q, heights %v", order, heights)
			}
		}
	}
}

// TestAllHeights: P7.3, of five keys with towers of all of four heights each: what is told is the same.
func TestAllHeights(t *testing.T) {
	heights := []int{1, 2, 3, 12}
	for _, order := range [][]string{{"b", "d", "a", "e", "c"}, {"a", "b", "c", "d", "e"}, {"e", "d", "c", "b", "a"}} {
		for n := range 1 << 10 {
			l, m := skip.New(), newModel()
			for i, k := range order {
				height := heights[n>>(2*i)&3]
				put(t, l, k, k+k, height)
				m.put(k, k+k, height)
			}
			m.check(t, l, []string{"", "A", "a", "aa", "b", "c", "cc", "d", "e", "f"})
			if t.Failed() {
				t.Fatalf("keys %q, heights by %b", order, n)
			}
		}
	}
}

// chance: numbers that look like chance, and are the same in each run.
type chance uint64

func (c *chance) below(n int) int {
	*c = *c*6364136223846793005 + 1442695040888963407
	return int(uint64(*c>>33) % uint64(n))
}

func (c *chance) text(most int) string {
	b := make([]byte, c.below(most+1))
	for i := range b {
		b[i] = "\x00ab\xff"[c.below(4)]
	}
	return string(b)
}

// TestMany: P7.1 to P7.3, many keys, many of them again; lists of other heights tell the same.
func TestMany(t *testing.T) {
	var c chance = 1
	m := newModel()
	l, flat, high := skip.New(), skip.New(), skip.New()
	for i := range 3000 {
		key, value, height := c.text(6), c.text(9), c.below(16)-2
		m.put(key, value, height)
		put(t, l, key, value, height)
		put(t, flat, key, value, 1)
		put(t, high, key, value, 12)
		if i%500 == 499 {
			m.check(t, l, []string{"", c.text(6), c.text(7), key, key + "\x00", "\xff\xff\xff\xff\xff\xff\xff"})
		}
	}
	for _, other := range []*skip.List{flat, high} {
		want(t, "Len", other.Len(), l.Len())
		want(t, "Bytes", other.Bytes(), l.Bytes())
		for _, k := range []string{"", "a", "ab\x00", "\xff"} {
			row(t, "From", other.From(k), told(l.From(k))...)
			row(t, "Down", other.Down(k), told(l.Down(k))...)
		}
	}
	for k, v := range m.values {
		get(t, l, k, v, true)
		want(t, "Height", l.Height(k), m.heights[k])
	}
}
