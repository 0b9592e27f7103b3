package varint_test

import (
	"fmt"
	"math"
	"math/big"
	"testing"

	"bourse/api"
	"bourse/varint"
)

// model: the chapter told once more: a number's bytes are looked for first, and reckoned then, without an end to its size.
type model struct {
	left string
	at   int
	err  api.Errno
}

func (m *model) take(n int) string {
	if m.err != api.OK {
		return ""
	}
	if n < 0 || len(m.left) < n {
		m.err = api.ErrShort
		return ""
	}
	s := m.left[:n]
	m.left = m.left[n:]
	m.at += n
	return s
}

// bytesOfNumber: up to its last one, but ten at most; whether that is there.
func bytesOfNumber(s string) (string, bool) {
	for i := range min(len(s), 10) {
		if s[i] < 128 || i == 9 {
			return s[:i+1], true
		}
	}
	return s, false
}

func (m *model) num() *big.Int {
	if m.err != api.OK {
		return new(big.Int)
	}
	s, whole := bytesOfNumber(m.left)
	if !whole {
		m.err = api.ErrShort
		return new(big.Int)
	}
	n := new(big.Int)
	for i := len(s) - 1; i >= 0; i-- {
		n.Mul(n, big.NewInt(128))
		n.Add(n, big.NewInt(int64(s[i]%128)))
	}
	last := s[len(s)-1]
	switch {
	case last >= 128 || !n.IsUint64():
		m.err = api.ErrRange
	case last == 0 && len(s) > 1:
		m.err = api.ErrForm
	}
	if m.err != api.OK {
		return new(big.Int)
	}
	m.take(len(s))
	return n
}

func (m *model) signed() *big.Int {
	n := m.num()
	if n.Bit(0) == 0 {
		return n.Rsh(n, 1)
	}
	n.Add(n, big.NewInt(1))
	return n.Neg(n.Rsh(n, 1))
}

func (m *model) text(most int) string {
	n := m.num()
	if m.err != api.OK {
		return ""
	}
	if n.Cmp(big.NewInt(int64(max(most, 0)))) > 0 {
		m.err = api.ErrLong
		return ""
	}
	if n.Cmp(big.NewInt(int64(len(m.left)))) > 0 {
		m.err = api.ErrShort
		return ""
	}
	return m.take(int(n.Int64()))
}

// fixed: of so many bytes.
func (m *model) fixed(n int) *big.Int {
	sum := new(big.Int)
	s := m.take(n)
	for i := range len(s) {
		b := big.NewInt(int64(s[i]))
		sum.Add(sum, b.Lsh(b, uint(8*i)))
	}
	return sum
}

func (m *model) end() api.Errno {
	if m.err == api.OK && m.left != "" {
		return api.ErrForm
	}
	return m.err
}

// dice: numbers that look like chance, the same each time.
type dice uint64

func (d *dice) below(n int) int {
	*d = *d*6364136223846793005 + 1442695040888963407
	return int(uint64(*d>>33) % uint64(n))
}

// bytes: some that make numbers of all lengths, with all their faults, likely.
func (d *dice) bytes(length int) string {
	b := make([]byte, length)
	mostly := []byte{0x80, 0xff, 0x81, 0x80}[d.below(4)]
	for i := range b {
		switch d.below(12) {
		case 0:
			b[i] = byte(d.below(256))
		case 1:
			b[i] = byte(d.below(4))
		default:
			b[i] = mostly
		}
	}
	return string(b)
}

// step: something is asked of both, and answered alike.
func step(d *dice, m *model, r *varint.Reader) (string, string, string) {
	n := []int{0, 1, 2, 3, 128, 200, -1, math.MinInt, math.MaxInt}[d.below(9)]
	switch d.below(10) {
	case 0, 1, 2:
		return "Num", fmt.Sprint(r.Num()), m.num().String()
	case 3, 4:
		return "Signed", fmt.Sprint(r.Signed()), m.signed().String()
	case 5, 6:
		return fmt.Sprintf("Text(%d)", n), r.Text(n), m.text(n)
	case 7:
		return "Fixed", fmt.Sprint(r.Fixed()), m.fixed(4).String()
	case 8:
		return "Wide", fmt.Sprint(r.Wide()), m.fixed(8).String()
	}
	n = min(n, 3)
	return fmt.Sprintf("Take(%d)", n), r.Take(n), m.take(n)
}

// TestModel: P3.2, whatever is asked of whatever bytes.
func TestModel(t *testing.T) {
	d := dice(11)
	seen := map[api.Errno]int{}
	for range 60000 {
		s := d.bytes(d.below(26))
		m, r := &model{left: s}, varint.Over(s)
		for range 5 {
			what, got, wanted := step(&d, m, r)
			what = fmt.Sprintf("%s over %x", what, s)
			same(t, what, got, wanted)
			stands(t, what, r, m.at, len(m.left), m.err)
			want(t, what+": End", r.End(), m.end())
		}
		seen[r.Err()]++
		if t.Failed() {
			return
		}
	}
	for _, e := range []api.Errno{api.OK, api.ErrShort, api.ErrForm, api.ErrRange, api.ErrLong} {
		if seen[e] < 100 {
			t.Errorf("the bytes made %v %d times alone", e, seen[e])
		}
	}
}

// TestWrittenIsRead: P3.3, as it was, and all of it.
func TestWrittenIsRead(t *testing.T) {
	for _, n := range numbers() {
		r := varint.Over(varint.Num(n) + varint.Signed(int64(n)) + varint.Signed(-int64(n)) + varint.Fixed(uint32(n)) + varint.Wide(n))
		want(t, "Num", r.Num(), n)
		want(t, "Signed", r.Signed(), int64(n))
		want(t, "Signed below 0", r.Signed(), -int64(n))
		want(t, "Fixed", r.Fixed(), uint32(n))
		want(t, "Wide", r.Wide(), n)
		want(t, "End", r.End(), api.OK)
	}
	for _, s := range texts() {
		r := varint.Over(varint.Text(s))
		same(t, "Text", r.Text(len(s)), s)
		want(t, "End", r.End(), api.OK)
	}
}

// TestReadWouldBeWritten: P3.3, of all numbers of two bytes, and of longer ones as they come.
func TestReadWouldBeWritten(t *testing.T) {
	l := []string{""}
	for i := range 256 {
		for j := range 256 {
			l = append(l, string([]byte{byte(i), byte(j)}))
		}
	}
	d := dice(5)
	for range 60000 {
		l = append(l, d.bytes(d.below(14)))
	}
	for _, s := range l {
		writtenSo(t, s, func(r *varint.Reader) string { return varint.Num(r.Num()) })
		writtenSo(t, s, func(r *varint.Reader) string { return varint.Signed(r.Signed()) })
		writtenSo(t, s, func(r *varint.Reader) string { return varint.Text(r.Text(len(s))) })
		writtenSo(t, s, func(r *varint.Reader) string { return varint.Fixed(r.Fixed()) })
		writtenSo(t, s, func(r *varint.Reader) string { return varint.Wide(r.Wide()) })
	}
}

func writtenSo(t *testing.T, s string, again func(*varint.Reader) string) {
	t.Helper()
	r := varint.Over(s)
	if got := again(r); r.Err() == api.OK {
		same(t, "written again", got, s[:r.At()])
	}
}
