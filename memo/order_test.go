package memo_test

import (
	"cmp"
	"fmt"
	"math"
	"strings"
	"testing"
	"unsafe"

	"bourse/api"
	"bourse/memo"
)

const top = 1<<56 - 1

// want: a test fails, if something is another thing than was wanted.
func want[T comparable](t *testing.T, what string, got, wanted T) {
	t.Helper()
	if got != wanted {
		t.Errorf("%s: %v, wanted %v", what, got, wanted)
	}
}

func put(key string, seq uint64, value string) api.Entry {
	return api.Entry{Key: key, Seq: seq, Kind: api.Put, Value: value}
}

func del(key string, seq uint64) api.Entry { return api.Entry{Key: key, Seq: seq, Kind: api.Delete} }

// rising: entries, each ahead of the next one.
func rising() []api.Entry {
	keys := []string{"", "\x00", "\x00\x00", "\x00\xff", "A", "a", "a\x00", "a\x00\x00", "a\x00b", "a\x01", "aa", "ab", "b", "é", "\xff", "\xff\x00", "\xff\xff", strings.Repeat("\xff", 300)}
	numbers := []uint64{math.MaxUint64, 1<<63 + 1, 1 << 63, 1<<63 - 1, top + 1, top, 256, 255, 2, 1, 0}
	kinds := []int{math.MaxInt, 257, 256, 255, 254, 3, 2, 1, 0, -1, -255, math.MinInt}
	var l []api.Entry
	for _, k := range keys {
		for _, n := range numbers {
			for _, kind := range kinds {
				l = append(l, api.Entry{Key: k, Seq: n, Kind: kind})
			}
		}
	}
	return l
}

// TestCompare: P8.1, all pairs; the values don't count.
func TestCompare(t *testing.T) {
	l := rising()
	for i, a := range l {
		for j, b := range l {
			if got := memo.Compare(a, b); got != cmp.Compare(i, j) {
				t.Fatalf("Compare(%#v, %#v): %d", a, b, got)
			}
		}
		low, high := a, a
		low.Value, high.Value = "1", "2"
		want(t, "its value", memo.Compare(low, high), 0)
		want(t, "its value, the other way round", memo.Compare(high, low), 0)
		next := l[(i+1)%len(l)]
		next.Value = "0"
		want(t, "a value of the next one", memo.Compare(high, next), cmp.Compare(i, (i+1)%len(l)))
	}
}

// TestLeast: P8.1, the number at, the kind 255, no value; ahead of the key's entries whose numbers aren't above at, behind those whose are.
func TestLeast(t *testing.T) {
	for _, k := range []string{"", "a", "a\x00", "\xff", strings.Repeat("x", 86), strings.Repeat("x", 300)} {
		for _, at := range []uint64{0, 1, 2, 255, 256, top, top + 1, 1 << 63, math.MaxUint64} {
			e := memo.Least(k, at)
			want(t, "Least", e, api.Entry{Key: k, Seq: at, Kind: 255})
			for _, n := range []uint64{0, 1, 2, 3, 255, 256, 257, top - 1, top, top + 1, 1<<63 - 1, math.MaxUint64} {
				for _, x := range []api.Entry{put(k, n, "v"), del(k, n)} {
					wanted := -1
					if n > at {
						wanted = 1
					}
					want(t, fmt.Sprintf("%#v beside %#v", e, x), memo.Compare(e, x), wanted)
				}
			}
			want(t, "a lesser key", memo.Compare(put(k, 0, ""), memo.Least(k+"\x00", at)), -1)
		}
	}
}

// TestLeastOfItsOwn: its key is new memory.
func TestLeastOfItsOwn(t *testing.T) {
	k := "a key"
	want(t, "shared", unsafe.StringData(memo.Least(k, 1).Key) == unsafe.StringData(k), false)
}
