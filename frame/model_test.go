package frame_test

import (
	"encoding/binary"
	"hash/crc32"
	"math/bits"
	"regexp"
	"strings"
	"testing"

	"bourse/frame"
)

const (
	block = 512
	head  = 7
)

// The kinds, by the chapter's numbers.
const (
	full   = 1
	first  = 2
	middle = 3
	last   = 4
)

// want: a test fails, if something is another thing than was wanted.
func want[T comparable](t *testing.T, what string, got, wanted T) {
	t.Helper()
	if got != wanted {
		t.Errorf("%s: %v, wanted %v", what, got, wanted)
	}
}

// short: bytes that a test can tell.
func short(s string) string {
	if len(s) > 40 {
		return s[:40] + ".."
	}
	return s
}

// same: as want, of bytes.
func same(t *testing.T, what, got, wanted string) {
	t.Helper()
	if got != wanted {
		t.Errorf("%s: %d bytes %x, wanted %d bytes %x", what, len(got), short(got), len(wanted), short(wanted))
	}
}

// sum: by the library, masked.
func sum(s string) uint32 {
	n := crc32.Checksum([]byte(s), crc32.MakeTable(crc32.Castagnoli))
	return bits.RotateLeft32(n, 17) + 0xa282ead8
}

// piece: one of any kind, its sum right.
func piece(kind byte, s string) string {
	b := binary.LittleEndian.AppendUint32(nil, sum(string(kind)+s))
	b = binary.LittleEndian.AppendUint16(b, uint16(len(s)))
	return string(append(b, kind)) + s
}

// filled: so many bytes, of all sorts.
func filled(length int) string {
	b := make([]byte, length)
	for i := range b {
		b[i] = byte(i*7 + i/256 + length)
	}
	return string(b)
}

// laid: Lay told once more, byte by byte: a piece is shut when its block has no room for the next byte.
func laid(at int, record string) string {
	log := make([]byte, max(at, 0))
	for block-len(log)%block < head {
		log = append(log, 0)
	}
	goesOn, ends := byte(first), byte(full) // the kind of the piece, as it is the last one or not
	s := ""
	from := len(log) % block
	for i := range len(record) {
		if from+head+len(s) == block {
			log = append(log, piece(goesOn, s)...)
			goesOn, ends, s, from = middle, last, "", 0
		}
		s += record[i : i+1]
	}
	return string(append(log, piece(ends, s)...))[max(at, 0):]
}

// told: a record, and the place behind it.
type told struct {
	record string
	to     int
}

// records: Records told once more: the pieces block by block first, then which of them make records.
func records(log string) []told {
	var l []told
	kinds := ""
	var pieces []told
	for from := 0; from < len(log); from += block {
		in := log[from:min(from+block, len(log))]
		if more := inBlock(in, from, &kinds, &pieces); !more {
			break
		}
	}
	whole := regexp.MustCompile("^(1|23*4)")
	for at := 0; ; {
		n := len(whole.FindString(kinds[at:]))
		if n == 0 {
			return l
		}
		x := told{}
		for _, p := range pieces[at : at+n] {
			x = told{x.record + p.record, p.to}
		}
		l = append(l, x)
		at += n
	}
}

// inBlock: its pieces, up to one that isn't whole; does the block behind it count?
func inBlock(in string, from int, kinds *string, pieces *[]told) bool {
	at := 0
	for block-at >= head {
		if len(in)-at < head {
			return false
		}
		length := int(in[at+4]) + 256*int(in[at+5])
		to := at + head + length
		if to > len(in) {
			return false
		}
		if binary.LittleEndian.Uint32([]byte(in[at:])) != sum(in[at+6:to]) {
			return false
		}
		*kinds += string(rune('0' + min(in[at+6], 9)))
		*pieces = append(*pieces, told{in[at+head : to], from + to})
		at = to
	}
	return len(in) == block && strings.Count(in[at:], "\x00") == block-at
}

// through: all that Records tells.
func through(log string) []told {
	var l []told
	for s, to := range frame.Records(log) {
		l = append(l, told{s, to})
	}
	return l
}

// tells: a log tells these, and Whole the place behind them.
func tells(t *testing.T, what, log string, wanted []told) {
	t.Helper()
	got := through(log)
	want(t, what+": how many", len(got), len(wanted))
	end := 0
	for i := range min(len(got), len(wanted)) {
		same(t, what, got[i].record, wanted[i].record)
		want(t, what+": behind it", got[i].to, wanted[i].to)
	}
	if len(wanted) > 0 {
		end = wanted[len(wanted)-1].to
	}
	want(t, what+": Whole", frame.Whole(log), end)
}

// dice: numbers that look like chance, the same each time.
type dice uint64

func (d *dice) below(n int) int {
	*d = *d*6364136223846793005 + 1442695040888963407
	return int(uint64(*d>>33) % uint64(n))
}
