package frame_test

import (
	"fmt"
	"strings"
	"testing"
	"unsafe"

	"bourse/frame"
)

// all: records laid one behind the other; the log, and what it is to tell.
func all(l ...string) (string, []told) {
	log := ""
	var w []told
	for _, s := range l {
		log += frame.Lay(len(log), s)
		w = append(w, told{s, len(log)})
	}
	return log, w
}

// logs: with noughts of all lengths, seven bytes left, blocks that are full just so, records over several.
func logs() map[string][]string {
	m := map[string][]string{
		"nothing":            nil,
		"one":                {"hi"},
		"without bytes":      {"", "", ""},
		"over blocks":        {"hi", filled(1000), "", "end"},
		"blocks just full":   {filled(505), filled(1010), filled(505), "x"},
		"full behind others": {"ab", filled(496), filled(1), filled(1515), ""},
		"many small":         strings.Split(strings.Repeat("a,bc,def,,", 60), ","),
		"noughts themselves": {strings.Repeat("\x00", 300), strings.Repeat("\x00", 700)},
		"a record of pieces": {piece(full, "in") + piece(first, "in"), piece(last, "")},
	}
	for left := range 9 { // bytes of the first block
		m[fmt.Sprintf("%d left", left)] = []string{filled(block - head - left), "a", "", filled(600), "b"}
		m[fmt.Sprintf("%d left, then none", left)] = []string{filled(block - head - left), "", filled(1010), ""}
	}
	return m
}

// TestTold: P5.3, what was laid, one behind the other.
func TestTold(t *testing.T) {
	for what, l := range logs() {
		log, w := all(l...)
		tells(t, what, log, w)
	}
}

// TestToldByDice: P5.3, and what the model says of it.
func TestToldByDice(t *testing.T) {
	d := dice(3)
	for range 200 {
		var l []string
		for range d.below(9) {
			n := d.below(40)
			switch d.below(4) {
			case 0:
				n = 480 + d.below(40)
			case 1:
				n = d.below(1700)
			}
			l = append(l, filled(n))
		}
		log, w := all(l...)
		tells(t, "laid", log, w)
		tells(t, "the model", log, records(log))
	}
}

// ahead: those that are whole within so many bytes.
func ahead(w []told, cut int) []told {
	n := 0
	for n < len(w) && w[n].to <= cut {
		n++
	}
	return w[:n]
}

// TestCut: P5.3, at every place.
func TestCut(t *testing.T) {
	for what, l := range logs() {
		log, w := all(l...)
		for cut := range len(log) + 1 {
			tells(t, fmt.Sprintf("%s: cut at %d", what, cut), log[:cut], ahead(w, cut))
		}
		if t.Failed() {
			return
		}
	}
}

// TestGoesOn: P5.2, noughts behind the last record, or what is no piece, are no record.
func TestGoesOn(t *testing.T) {
	for what, l := range logs() {
		log, w := all(l...)
		for _, more := range []string{"\x00", strings.Repeat("\x00", 6), strings.Repeat("\x00", 7), strings.Repeat("\x00", 600), strings.Repeat("\xff", 600), "a", "hello, world"} {
			tells(t, fmt.Sprintf("%s: %x behind it", what, short(more)), log+more, w)
		}
	}
}

// TestTurned: P5.2, a byte at every place: all ahead of the record that it belongs to, noughts to the one behind them.
func TestTurned(t *testing.T) {
	for what, l := range logs() {
		log, w := all(l...)
		for at := range len(log) {
			for _, turn := range []byte{1, 128, 0xff, 3 << (at % 7)} {
				b := []byte(log)
				b[at] ^= turn
				tells(t, fmt.Sprintf("%s: %d turned at %d", what, turn, at), string(b), ahead(w, at))
			}
		}
		if t.Failed() {
			return
		}
	}
}

// TestEachPartTurned: P5.2, of the second of three records, by hand: each of its parts.
func TestEachPartTurned(t *testing.T) {
	log, w := all(filled(block-head-6), "hello", "end")
	for part, at := range map[string]int{
		"the first of the noughts": 506, "the last of the noughts": 511,
		"the sum's first byte": 512, "the sum's last byte": 515, "the length's low byte": 516, "the length's high byte": 517, "the kind": 518,
		"the first of its bytes": 519, "the last of its bytes": 523,
	} {
		for turn := 1; turn < 256; turn++ {
			b := []byte(log)
			b[at] ^= byte(turn)
			tells(t, part, string(b), w[:1])
		}
	}
	b := []byte(log)
	b[524] ^= 1
	tells(t, "the next one's sum", string(b), w[:2])
}

// TestKindsInARow: P5.2, all rows of up to five pieces, of kinds that there are and of those beside them, in one block.
func TestKindsInARow(t *testing.T) {
	rows := [][]byte{nil}
	for i := 0; len(rows[i]) < 5; i++ {
		for k := range byte(6) {
			rows = append(rows, append(append([]byte(nil), rows[i]...), k))
		}
	}
	for _, row := range rows {
		log := ""
		for i, k := range row {
			log += piece(k, strings.Repeat(string(rune('a'+i)), i%3))
		}
		tells(t, fmt.Sprint(row), log, records(log))
		if t.Failed() {
			return
		}
	}
}

// TestKinds: P5.2, by hand: which rows of pieces tell what.
func TestKinds(t *testing.T) {
	for _, c := range []struct {
		kinds []byte
		want  []told
	}{
		{[]byte{full}, []told{{"a", 8}}},
		{[]byte{full, full}, []told{{"a", 8}, {"b", 16}}},
		{[]byte{first, last}, []told{{"ab", 16}}},
		{[]byte{first, middle, last, full}, []told{{"abc", 24}, {"d", 32}}},
		{[]byte{first, middle, middle, last}, []told{{"abcd", 32}}},
		{[]byte{first}, nil},
		{[]byte{first, middle}, nil},
		{[]byte{full, first, middle}, []told{{"a", 8}}},
		{[]byte{first, full, full}, nil},
		{[]byte{first, full, last}, nil},
		{[]byte{first, first, last}, nil},
		{[]byte{first, middle, first, last}, nil},
		{[]byte{full, first, full, full}, []told{{"a", 8}}},
		{[]byte{middle}, nil},
		{[]byte{last}, nil},
		{[]byte{last, full}, nil},
		{[]byte{middle, last, full}, nil},
		{[]byte{full, middle, full}, []told{{"a", 8}}},
		{[]byte{full, last, full}, []told{{"a", 8}}},
		{[]byte{first, last, last, full}, []told{{"ab", 16}}},
		{[]byte{0}, nil},
		{[]byte{5}, nil},
		{[]byte{255}, nil},
		{[]byte{full, 0, full}, []told{{"a", 8}}},
		{[]byte{full, 5, full}, []told{{"a", 8}}},
		{[]byte{first, 0, last}, nil},
		{[]byte{first, 5, last}, nil},
		{[]byte{first, 129, last}, nil},
	} {
		log := ""
		for i, k := range c.kinds {
			log += piece(k, string(rune('a'+i)))
		}
		tells(t, fmt.Sprint(c.kinds), log, c.want)
	}
	for k := 5; k < 256; k++ {
		tells(t, fmt.Sprintf("the kind %d", k), piece(byte(k), "a")+piece(full, "b"), nil)
	}
}

// TestBeyondItsBlock: P5.2, a piece whose bytes are all there, its sum right, but not in one block.
func TestBeyondItsBlock(t *testing.T) {
	fits := piece(full, filled(505))
	tells(t, "505 bytes", fits, []told{{filled(505), 512}})
	for _, n := range []int{506, 507, 512, 1000, 1010, 65535} {
		tells(t, fmt.Sprintf("%d bytes", n), piece(full, filled(n)), nil)
		tells(t, fmt.Sprintf("%d bytes in the second block", n), fits+piece(full, filled(n)), []told{{filled(505), 512}})
		tells(t, fmt.Sprintf("%d bytes within a record", n), piece(first, "")+piece(last, filled(n)), nil)
	}
	hi := piece(full, "hi")
	tells(t, "up to the block's end", hi+piece(full, filled(496)), []told{{"hi", 9}, {filled(496), 512}})
	tells(t, "one byte beyond it", hi+piece(full, filled(497))+hi, []told{{"hi", 9}})
	tells(t, "up to the end, with seven left", piece(full, filled(498))+piece(full, ""), []told{{filled(498), 505}, {"", 512}})
	tells(t, "beyond it, with seven left", piece(full, filled(498))+piece(full, "a"), []told{{filled(498), 505}})
	tells(t, "its head beyond it", piece(full, filled(499))+piece(full, ""), []told{{filled(499), 506}})
}

// TestNoughts: P5.2, those that are left in a block are 0, all of them, and no place for a piece.
func TestNoughts(t *testing.T) {
	for left := 1; left < head; left++ {
		n := block - head - left
		begin := piece(full, filled(n))
		for nought := range left {
			for _, b := range []byte{1, 128, 255, '0'} {
				gap := []byte(strings.Repeat("\x00", left))
				gap[nought] = b
				tells(t, fmt.Sprintf("%x", gap), begin+string(gap)+piece(full, "a"), []told{{filled(n), block - left}})
			}
			tells(t, "lacking", begin+strings.Repeat("\x00", nought), []told{{filled(n), block - left}})
		}
		tells(t, "as they should be", begin+strings.Repeat("\x00", left)+piece(full, "a"), []told{{filled(n), block - left}, {"a", block + 8}})
	}
}

// TestSmallPieces: P5.2, a record's pieces may be smaller than their block has room: noughts within a record are such too.
func TestSmallPieces(t *testing.T) {
	s := filled(502) // three bytes are left
	for _, c := range []struct {
		what, gap string
		want      []told
	}{
		{"noughts", "\x00\x00\x00", []told{{s + "a", 520}, {"b", 528}}},
		{"no noughts", "\x00\x01\x00", nil},
	} {
		tells(t, c.what, piece(first, s)+c.gap+piece(last, "a")+piece(full, "b"), c.want)
	}
	tells(t, "without bytes", piece(first, "")+piece(middle, "")+piece(middle, "a")+piece(last, ""), []told{{"a", 29}})
	tells(t, "nothing but heads", piece(first, "")+piece(last, ""), []told{{"", 14}})
}

// TestDamage: P5.2, logs that are changed in all sorts of ways, by the model.
func TestDamage(t *testing.T) {
	d := dice(8)
	whole := 0
	for range 6000 {
		log := ""
		for range 1 + d.below(8) { // pieces of any kind, not beyond their block
			left := block - len(log)%block
			if left < head {
				log += strings.Repeat("\x00", left)
				left = block
			}
			n := min(left-head, []int{0, d.below(30), d.below(block), block}[d.below(4)])
			log += piece([]byte{full, full, first, middle, last, last}[d.below(6)], filled(n))
		}
		b := []byte(log)
		switch at := d.below(len(b)); d.below(5) {
		case 0:
			b[at] = byte(d.below(256))
		case 1:
			b = append(b[:at], b[at+1:]...)
		case 2:
			b = append(b, b[at:]...)
		case 3:
			clear(b[at:])
		}
		w := records(string(b))
		whole += len(w)
		tells(t, "damaged", string(b), w)
		if t.Failed() {
			return
		}
	}
	if whole < 2000 {
		t.Errorf("%d records alone were whole", whole)
	}
}

// TestLeftOff: P5.2, a row is left anywhere, at once too, and begins anew.
func TestLeftOff(t *testing.T) {
	log, w := all("a", filled(1000), "", "b")
	row := frame.Records(log)
	for n := range len(w) + 1 {
		seen := 0
		for s, to := range row {
			same(t, "a record", s, w[seen].record)
			want(t, "behind it", to, w[seen].to)
			seen++
			if seen >= n {
				break
			}
		}
		want(t, "seen", seen, max(n, 1))
	}
	calls := 0
	row(func(string, int) bool { calls++; return false })
	want(t, "left off at once", calls, 1)
	for range frame.Records("") {
		t.Error("an empty log has a record")
	}
}

// TestWithin: P5.2, two rows at the same time don't see each other.
func TestWithin(t *testing.T) {
	log, w := all("a", filled(600), "b")
	row := frame.Records(log)
	n := 0
	for s := range row {
		same(t, "outside", s, w[n].record)
		m := 0
		for u := range row {
			same(t, "within", u, w[m].record)
			m++
		}
		want(t, "within", m, 3)
		n++
	}
	want(t, "outside", n, 3)
}

// TestTextsOfTheirOwn: a record is new memory, none of the log's.
func TestTextsOfTheirOwn(t *testing.T) {
	log, _ := all("hello", filled(600))
	from := uintptr(unsafe.Pointer(unsafe.StringData(log)))
	for s := range frame.Records(log) {
		at := uintptr(unsafe.Pointer(unsafe.StringData(s)))
		want(t, "a record within its log", at >= from && at < from+uintptr(len(log)), false)
	}
}
