package check_test

import (
	"fmt"
	"strings"
	"testing"

	"bourse/api"
	"bourse/check"
	"bourse/compact"
	"bourse/disk"
	"bourse/store"
)

// TestFilesNil: P30.2.
func TestFilesNil(t *testing.T) { want(t, "nil", check.Files(nil), false) }

// opened: a store on a disk.
func opened(t *testing.T, d *disk.Disk, o store.Options) *store.Store {
	t.Helper()
	s, e := store.Open(d, o)
	want(t, "Open", e, api.OK)
	return s
}

// tables: how many of its files are tables.
func tables(s *store.Store) int {
	n := 0
	for _, name := range s.Files() {
		if strings.HasPrefix(name, "t-") {
			n++
		}
	}
	return n
}

// TestFiles: P30.2, of stores with as many tables as it comes, on all levels, through flushes and compactions, opened anew.
func TestFiles(t *testing.T) {
	d, _ := disk.New(api.MaxDisk)
	s := opened(t, d, store.Options{Table: 40})
	want(t, "nothing", check.Files(s), true)
	most := 0
	levels := [api.Levels]bool{}
	c := dice(30)
	for i := range 400 {
		key := fmt.Sprint("key ", c.below(40))
		want(t, "Write", s.Write(api.Change{Kind: api.Put, Key: key, Value: fmt.Sprint(i)}), api.OK)
		switch c.below(6) {
		case 0, 1:
			s.Flush()
		case 2:
			s.Compact(c.below(3), c.below(5))
		case 3:
			if c.one(20) {
				s = opened(t, d, store.Options{Table: 40, Memo: c.below(200)})
			}
		}
		want(t, fmt.Sprint("step ", i), check.Files(s), true)
		want(t, fmt.Sprint("step ", i, ": tables"), tables(s), s.Version().Count())
		most = max(most, tables(s))
		for level, l := range s.Version().Levels {
			levels[level] = levels[level] || len(l) > 0
		}
	}
	want(t, "many tables", most > 8, true)
	want(t, "all levels", levels, [api.Levels]bool{true, true, true, true})
	_, e := compact.Rules{Files: 1, Bytes: [2]uint64{1, 1}}.Settle(s, 1000)
	want(t, "Settle", e, api.OK)
	want(t, "settled", check.Files(s), true)
}

// TestFilesClosed: P30.2, of a store that an error has closed, too, wherever it came, and of what is opened behind that.
func TestFilesClosed(t *testing.T) {
	for step := range 60 {
		for _, power := range []bool{true, false} {
			d, _ := disk.New(api.MaxDisk)
			s := opened(t, d, store.Options{Table: 30})
			if power {
				d.Fuse(step)
			} else {
				d.Fault(step)
			}
			for i := range 6 {
				s.Write(api.Change{Kind: api.Put, Key: fmt.Sprint("key ", i), Value: "value"})
				s.Flush()
				s.Compact(0, 0)
			}
			what := fmt.Sprint("step ", step, ", power ", power)
			want(t, what, check.Files(s), true)
			d.Crash([]api.Fate{{Keep: step % 7}})
			want(t, what+", opened anew", check.Files(opened(t, d, store.Options{})), true)
		}
	}
}
