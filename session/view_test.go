package session_test

import (
	"fmt"
	"math"
	"slices"
	"testing"

	"bourse/api"
	"bourse/overlay"
	"bourse/store"
)

// reads: all that a reader answers of these pairs.
func reads(t *testing.T, what string, r overlay.Reader, l []api.Pair) {
	t.Helper()
	x := overlay.New(l...)
	list(t, what, all(r), l...)
	for _, from := range append(l, api.Pair{}, api.Pair{Key: "\xff"}, api.Pair{Key: "no key"}) {
		v, ok := r.Get(from.Key)
		w, is := x.Get(from.Key)
		want(t, fmt.Sprintf("%s: Get(%q)", what, from.Key), v == w && ok == is, true)
		for _, to := range append(l, api.Pair{}) {
			list(t, fmt.Sprintf("%s: Range(%q, %q)", what, from.Key, to.Key), slices.Collect(r.Range(from.Key, to.Key)), slices.Collect(x.Range(from.Key, to.Key))...)
		}
	}
	for most := range len(l) {
		var got []api.Pair
		for p := range r.Range("", "") {
			if len(got) == most {
				break
			}
			got = append(got, p)
		}
		list(t, fmt.Sprint(what, ": left behind ", most), got, l[:most]...)
	}
}

// TestView: P28.1, what the store has when the reader is asked, so are its rows.
func TestView(t *testing.T) {
	for _, o := range []store.Options{{}, {Memo: 1}, {Memo: 150, Block: 60, Table: 80, Heights: []int{1, 3}}} {
		m, x := opened(t, fresh(t), o), begin()
		v := m.View()
		row := v.Range("", "")
		for _, op := range street() {
			both(t, m, x, op)
			reads(t, fmt.Sprintf("behind %+v", op), v, all(x.s))
			list(t, fmt.Sprintf("behind %+v: a row", op), slices.Collect(row), all(x.s)...)
		}
		m.Store().Flush()
		m.Store().Compact(0, 0)
		reads(t, "put together", v, all(x.s))
	}
}

// TestSeen: P28.1, what is seen at a number, whatever comes behind it.
func TestSeen(t *testing.T) {
	m, x := opened(t, fresh(t), store.Options{Memo: 120}), begin()
	readers, pairs := []overlay.Reader{m.Seen(0)}, [][]api.Pair{nil}
	last := m.Seen(math.MaxUint64)
	for _, op := range street() {
		m.Store().Snap()
		both(t, m, x, op)
		readers = append(readers, m.Seen(m.Store().Seq()))
		pairs = append(pairs, all(x.s))
		for i, r := range readers {
			reads(t, fmt.Sprint("at ", i), r, pairs[i])
		}
		reads(t, "at the end", last, all(x.s))
		if len(m.Store().Version().Levels[0]) > 2 {
			want(t, "Compact", m.Store().Compact(0, 0), api.OK)
		}
	}
	want(t, "put together", len(m.Store().Version().Levels[1]) > 0, true)
}

// TestReadersShut: P28.1, a closed store is read on.
func TestReadersShut(t *testing.T) {
	d, m, x := begun(t, store.Options{})
	v, at := m.View(), m.Seen(3)
	was := all(at)
	d.Fuse(0)
	m.Do(tick(1))
	reads(t, "shut", v, all(x.s))
	reads(t, "shut, at 3", at, was)
	want(t, "more than at 3", len(was) > 0 && len(all(x.s)) > len(was), true)
}
