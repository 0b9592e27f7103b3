package command_test

import (
	"fmt"
	"math"
	"slices"
	"strings"
	"testing"

	"bourse/api"
	"bourse/command"
)

// num: a number's bytes.
func num(n uint64) string {
	s := ""
	for ; n > 127; n /= 128 {
		s += string([]byte{byte(n%128 + 128)})
	}
	return s + string([]byte{byte(n)})
}

// bytesOf: a field's, of the number of these bits.
func bytesOf(field string, n uint64) string {
	if !isSigned(field) {
		return num(n)
	}
	if int64(n) < 0 {
		return num(2*-n - 1)
	}
	return num(2 * n)
}

// values: some that a field may have.
func values(field string) []uint64 {
	l := []uint64{0, 1, 2, 63, 64, 127, 128, 300, 16383, 16384, math.MaxInt32 - 1, math.MaxInt32}
	if isSmall(field) {
		return l
	}
	return append(l, math.MaxInt32+1, 1<<32, 1<<40, greatest-1, greatest, 1<<63, 1<<63+1, end-63, end-1, end)
}

// tooFar: some that a Side, a Type, a Thing or a Most can't be.
func tooFar() []uint64 {
	return []uint64{1 << 31, 1<<31 + 1, 1<<32 - 1, 1 << 32, 1<<32 + 1, greatest, 1 << 63, 1<<63 + 1, end - 1, end}
}

// told: an operation of a kind that tells these numbers, and its bytes.
func told(kind int, numbers ...uint64) (command.Op, string) {
	o, s := command.Op{Kind: kind}, string([]byte{byte(kind)})
	for i, field := range tells()[kind][1:] {
		set(&o, field, numbers[i])
		s += bytesOf(field, numbers[i])
	}
	return o, s
}

// some: numbers for all fields of a kind, by turns.
func some(kind, turn int) []uint64 {
	var l []uint64
	for i, field := range tells()[kind][1:] {
		v := values(field)
		l = append(l, v[(turn*(i+1)+i)%len(v)])
	}
	return l
}

// TestBytesByHand: P27.1, P27.3.
func TestBytesByHand(t *testing.T) {
	bothWays(t, command.Op{Kind: command.Place, Account: 300, Side: 1, Type: 5, Price: 3, Size: -4, Expiry: 128}, "\x01\xac\x02\x01\x05\x06\x07\x80\x01")
	bothWays(t, command.Op{Kind: command.Cancel, Account: 1, ID: 2}, "\x02\x01\x02")
	bothWays(t, command.Op{Kind: command.Amend, Account: 1, ID: 2, Price: -1, Size: 64}, "\x03\x01\x02\x01\x80\x01")
	bothWays(t, command.Op{Kind: command.Tick, N: 5}, "\x04\x05")
	bothWays(t, command.Op{Kind: command.Deposit, Account: 1, Thing: 2, Size: 3}, "\x05\x01\x02\x06")
	bothWays(t, command.Op{Kind: command.Withdraw, Account: 1, Thing: 2, Size: 3}, "\x06\x01\x02\x06")
	bothWays(t, command.Op{Kind: command.Depth, Side: 2, Most: 32}, "\x07\x02\x20")
	bothWays(t, command.Op{Kind: command.Status, ID: end}, "\x08\xff\xff\xff\xff\xff\xff\xff\xff\xff\x01")
	bothWays(t, command.Op{Kind: command.Money, Account: 7}, "\x09\x07")
}

// TestBytes: P27.1, P27.3, each field's numbers up to their ends, whatever a market would say of them.
func TestBytes(t *testing.T) {
	for kind := range tells() {
		for turn := range 100 {
			o, s := told(kind, some(kind, turn)...)
			bothWays(t, o, s)
		}
		for i, field := range tells()[kind][1:] {
			for _, n := range values(field) {
				l := make([]uint64, len(tells()[kind])-1)
				l[i] = n
				o, s := told(kind, l...)
				bothWays(t, o, s)
			}
		}
	}
}

// TestBytesKind: P27.1, there is no such kind, whatever else is wrong.
func TestBytesKind(t *testing.T) {
	for _, kind := range noKinds() {
		refused(t, "none", command.Op{Kind: kind}, api.ErrKind)
		refused(t, "none", command.Op{Kind: kind, Account: 1, Side: -1, N: 3, Most: 1 << 31}, api.ErrKind)
	}
}

// TestBytesForm: P27.1, what a kind doesn't tell isn't zero; what is small goes beyond its ends.
func TestBytesForm(t *testing.T) {
	for kind, l := range tells() {
		for _, field := range fields() {
			wrong := []uint64{1, 2, 1 << 31, 1 << 32, greatest, 1 << 63, end}
			if slices.Contains(l[1:], field) {
				wrong = tooFar()
			}
			if slices.Contains(l[1:], field) && !isSmall(field) {
				continue
			}
			for turn, n := range wrong {
				o, _ := told(kind, some(kind, turn)...)
				set(&o, field, n)
				refused(t, l[0]+"'s "+field, o, api.ErrForm)
				none := command.Op{Kind: kind}
				set(&none, field, n)
				refused(t, l[0]+"'s "+field+" alone", none, api.ErrForm)
			}
		}
	}
	refused(t, "two", command.Op{Kind: command.Depth, Side: -1, Most: 1 << 31}, api.ErrForm)
	refused(t, "all", command.Op{Kind: command.Tick, Account: 1, ID: 2, Side: 3, Type: 4, Thing: 5, Most: 6, Price: 7, Size: 8, Expiry: 9, N: 10}, api.ErrForm)
}

// TestParseKind: P27.1, no bytes, or no such kind, whatever stands behind it.
func TestParseKind(t *testing.T) {
	unread(t, "nothing", "", api.ErrKind)
	for b := range 256 {
		for _, rest := range []string{"", "\x01", "\x80", "\x01\x02\x03", strings.Repeat("\xff", 12)} {
			if _, is := tells()[b]; !is {
				unread(t, "no kind", string([]byte{byte(b)})+rest, api.ErrKind)
			}
		}
	}
}

// TestParseErrors: P27.1, layer 3's reader's errors, of each field, and then ErrForm of a small number.
func TestParseErrors(t *testing.T) {
	for kind, l := range tells() {
		for turn := range 30 {
			_, s := told(kind, some(kind, turn)...)
			for i := 1; i < len(s); i++ {
				unread(t, l[0]+", cut", s[:i], api.ErrShort)
			}
			unread(t, l[0]+", and more", s+"\x00", api.ErrForm)
			unread(t, l[0]+", and more", s+"more", api.ErrForm)
		}
		for i, field := range l[1:] {
			n := some(kind, 3)
			_, all := told(kind, n...)
			ahead, behind := string([]byte{byte(kind)}), ""
			for j, other := range l[1:] {
				if j < i {
					ahead += bytesOf(other, n[j])
				}
				if j > i {
					behind += bytesOf(other, n[j])
				}
			}
			what := l[0] + "'s " + field
			want(t, what+": its bytes", ahead+bytesOf(field, n[i])+behind, all)
			unread(t, what+" with a nought", ahead+"\x81\x00"+behind, api.ErrForm)
			unread(t, what+" of eleven bytes", ahead+strings.Repeat("\x80", 10)+"\x01"+behind, api.ErrRange)
			unread(t, what+" above all", ahead+strings.Repeat("\xff", 9)+"\x02"+behind, api.ErrRange)
			if isSmall(field) {
				tooFarIn(t, what, ahead, behind)
			}
		}
	}
}

// tooFarIn: a small number beyond its end is ErrForm, behind all errors of the reader.
func tooFarIn(t *testing.T, what, ahead, behind string) {
	t.Helper()
	for _, n := range tooFar() {
		s := ahead + num(n) + behind
		unread(t, what+" too far", s, api.ErrForm)
		unread(t, what+" too far, and more", s+"\x00", api.ErrForm)
		for i := len(ahead) + 1; i < len(s); i++ {
			unread(t, what+" too far, cut", s[:i], api.ErrShort)
		}
		if behind != "" {
			unread(t, what+" too far, the next above all", ahead+num(n)+strings.Repeat("\xff", 10), api.ErrRange)
		}
	}
}

// number: a test's own reader of one, and what stands behind it.
func number(s string) (uint64, string, api.Errno) {
	n := uint64(0)
	for i := range len(s) {
		if i == 9 && s[i] > 1 {
			return 0, "", api.ErrRange
		}
		n += uint64(s[i]&127) << (7 * i)
		if s[i] < 128 {
			if s[i] == 0 && i > 0 {
				return 0, "", api.ErrForm
			}
			return n, s[i+1:], api.OK
		}
	}
	return 0, "", api.ErrShort
}

// parsed: what bytes are, told once more.
func parsed(s string) (command.Op, api.Errno) {
	if s == "" || tells()[int(s[0])] == nil {
		return command.Op{}, api.ErrKind
	}
	o, far := command.Op{Kind: int(s[0])}, false
	s = s[1:]
	for _, field := range tells()[o.Kind][1:] {
		n, rest, e := number(s)
		if e != api.OK {
			return command.Op{}, e
		}
		far = far || isSmall(field) && n > math.MaxInt32
		if isSigned(field) {
			n = n>>1 ^ -(n & 1)
		}
		set(&o, field, n)
		s = rest
	}
	if s != "" || far {
		return command.Op{}, api.ErrForm
	}
	return o, api.OK
}

// TestParse: P27.1, P27.3, all short texts, and longer ones by dice, against a reader told once more; what is read would be written so.
func TestParse(t *testing.T) {
	seen := map[string]int{}
	look := func(s string) {
		o, e := command.Parse(s)
		wanted, f := parsed(s)
		if o != wanted || e != f {
			t.Errorf("%x: %+v, %v, wanted %+v, %v", s, o, e, wanted, f)
		}
		seen[fmt.Sprint(o.Kind, " ", int(e))]++
		if e == api.OK {
			again, f := command.Bytes(o)
			want(t, fmt.Sprintf("%x: written again", s), again == s && f == api.OK, true)
		}
	}
	for a := range 1 << 16 {
		look(string([]byte{byte(a >> 8)}))
		look(string([]byte{byte(a >> 8), byte(a)}))
	}
	bytes := []byte{0, 1, 2, 9, 0x20, 0x7f, 0x80, 0x81, 0xff}
	d := dice(27)
	for range 300000 {
		s := []byte{byte(1 + d.below(10))}
		for range d.below(16) {
			if d.below(30) == 0 {
				s = append(s, strings.Repeat("\xff", 9)...)
			}
			s = append(s, bytes[d.below(len(bytes))])
		}
		look(string(s))
		if t.Failed() {
			return
		}
	}
	for kind := range tells() {
		want(t, fmt.Sprint("the dice made the kind ", kind), seen[fmt.Sprint(kind, " 0")] > 50, true)
	}
	for _, e := range []api.Errno{api.ErrShort, api.ErrForm, api.ErrRange, api.ErrKind} {
		want(t, fmt.Sprint("the dice made ", e), seen[fmt.Sprint("0 ", int(e))] > 50, true)
	}
}
