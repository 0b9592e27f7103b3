package bloom_test

import (
	"fmt"
	"hash/crc32"
	"math"
	"math/big"
	"slices"
	"strings"
	"testing"

	"bourse/bloom"
)

// sum: the library's.
func sum(s string) *big.Int {
	return big.NewInt(int64(crc32.Checksum([]byte(s), crc32.MakeTable(crc32.Castagnoli))))
}

// places: told once more, by numbers without an end to their size; and whether a sum went beyond 2^32.
func places(key string, bits int) ([6]int, bool) {
	var l [6]int
	round := big.NewInt(1 << 32)
	beyond := false
	for i := range l {
		n := sum(key + "\x07")
		n.Mul(n, big.NewInt(int64(i)))
		n.Add(n, sum(key))
		n.Add(n, big.NewInt(int64(i*i)))
		beyond = beyond || n.Cmp(round) >= 0
		n.Mod(n, round)
		l[i] = int(n.Mod(n, big.NewInt(int64(bits))).Int64())
	}
	return l, beyond
}

// filter: told once more, bit by bit.
func filter(keys []string) string {
	bits := max(64, 10*len(keys))
	for bits%8 != 0 {
		bits++
	}
	set := map[int]bool{}
	for _, k := range keys {
		l, _ := places(k, bits)
		for _, p := range l {
			set[p] = true
		}
	}
	var b []byte
	for k := range bits {
		if k%8 == 0 {
			b = append(b, 0)
		}
		if set[k] {
			b[k/8] += 1 << (k % 8)
		}
	}
	return string(b)
}

// may: told once more.
func may(f, key string) bool {
	if len(f) == 0 {
		return true
	}
	l, _ := places(key, 8*len(f))
	return !slices.ContainsFunc(l[:], func(p int) bool { return f[p/8]>>(p%8)%2 == 0 })
}

// chance: numbers that look like chance, and are the same in each run.
type chance uint64

func (c *chance) below(n int) int {
	*c = *c*6364136223846793005 + 1442695040888963407
	return int(uint64(*c>>33) % uint64(n))
}

// text: of some length up to most, of any bytes.
func (c *chance) text(most int) string {
	b := make([]byte, c.below(most+1))
	for i := range b {
		b[i] = byte(c.below(256))
	}
	return string(b)
}

// texts: so many, all of them others.
func (c *chance) texts(n int) []string {
	var l []string
	for i := range n {
		l = append(l, fmt.Sprint(i, " ", c.text(20)))
	}
	return l
}

// TestPlaces: P9.1, of bits of all sizes, powers of two and others; sums within 2^32 and beyond it.
func TestPlaces(t *testing.T) {
	sizes := []int{1, 2, 3, 7, 8, 9, 63, 64, 65, 72, 80, 1000, 1001, 1 << 16, 1<<31 - 1, 1 << 31, 1<<31 + 1, 1<<32 - 1, 1 << 32, 1<<32 + 1, 1 << 40, math.MaxInt - 7, math.MaxInt}
	var c chance = 9
	keys := []string{"", "\x00", "\x07", "\x07\x07", "a", "a\x07", "\xff", "Zürich", strings.Repeat("x", 255), strings.Repeat("x", 256), strings.Repeat("\x00", 5000)}
	for range 300 {
		keys = append(keys, c.text(12))
	}
	within, above := 0, 0
	for _, k := range keys {
		for _, bits := range sizes {
			l, beyond := places(k, bits)
			want(t, fmt.Sprintf("Places(%q, %d)", k, bits), bloom.Places(k, bits), l)
			if beyond {
				above++
			} else {
				within++
			}
		}
	}
	if within < 50 || above < 50 {
		t.Errorf("%d sums within 2^32, %d beyond it", within, above)
	}
}

// TestMake: P9.1, of none, one, many keys, and of keys that come twice.
func TestMake(t *testing.T) {
	var c chance = 4
	for _, n := range []int{0, 1, 2, 3, 5, 6, 7, 8, 9, 13, 20, 50, 100, 333, 1000} {
		l := c.texts(n)
		same(t, fmt.Sprintf("of %d keys", n), bloom.Make(l), filter(l))
		if n > 0 {
			twice := append(slices.Clone(l), l[0])
			same(t, fmt.Sprintf("of %d keys, one of them twice", n), bloom.Make(twice), filter(twice))
			same(t, fmt.Sprintf("of one key %d times", n), bloom.Make(slices.Repeat(l[:1], n)), filter(slices.Repeat(l[:1], n)))
		}
		slices.Reverse(l)
		same(t, fmt.Sprintf("of %d keys, turned round", n), bloom.Make(l), filter(l))
	}
}

// TestMay: P9.2, of bytes of all lengths, made or not.
func TestMay(t *testing.T) {
	var c chance = 8
	yes, no := 0, 0
	for range 4000 {
		b := []byte(c.text(30))
		for i := range b {
			b[i] |= byte(c.below(256)) | byte(c.below(256)) // so that some keys may be there
		}
		f, k := string(b), c.text(6)
		got := bloom.May(f, k)
		want(t, fmt.Sprintf("May(%x, %x)", f, k), got, may(f, k))
		if got {
			yes++
		} else {
			no++
		}
	}
	if yes < 400 || no < 400 {
		t.Errorf("yes %d times, no %d times", yes, no)
	}
	for _, n := range []int{1, 6, 7, 40} {
		f := bloom.Make(c.texts(n))
		for _, k := range c.texts(300) {
			want(t, fmt.Sprintf("May of %d keys, %q", n, k), bloom.May(f, k), may(f, k))
		}
	}
}

// TestEachMayBeThere: P9.3; and few others are said to be.
func TestEachMayBeThere(t *testing.T) {
	var c chance = 6
	for n := range 200 {
		l := c.texts(n)
		if n%3 == 0 {
			l = append(l, l...)
		}
		f := bloom.Make(l)
		for _, k := range l {
			want(t, fmt.Sprintf("a key of %d", n), bloom.May(f, k), true)
		}
	}
	l := c.texts(5000)
	f := bloom.Make(l)
	wrong := 0
	for _, k := range l {
		want(t, "a key of many", bloom.May(f, k), true)
		if bloom.May(f, k+" no") {
			wrong++
		}
	}
	if wrong > 250 {
		t.Errorf("%d keys of 5000 that aren't there may be", wrong)
	}
}
