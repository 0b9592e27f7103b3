package script_test

import (
	"fmt"
	"math/big"
	"regexp"
	"slices"
	"strings"
	"testing"

	"bourse/api"
	"bourse/script"
)

// unparsed: an error of Parse, its line, and no lines beside it.
func unparsed(t *testing.T, what, s string, at int, wanted api.Errno) {
	t.Helper()
	l, n, e := script.Parse(s)
	if e != wanted || n != at || len(l) != 0 {
		t.Errorf("%s: %.200q: %v, line %d, %v, wanted %v, line %d", what, s, e, n, l, wanted, at)
	}
}

// good: lines of each kind, each with its text.
func good() (lines []script.Line, texts []string) {
	for kind := 1; kind <= 14; kind++ {
		for turn := range 3 {
			l, s := told(kind, some(kind, turn+kind)...)
			lines, texts = append(lines, l), append(texts, s)
		}
	}
	return lines, texts
}

// TestParse: P31.1, P31.3, all lines, in order, also the same ones again; of nothing none.
func TestParse(t *testing.T) {
	lines, texts := good()
	lines, texts = slices.Repeat(lines, 3), slices.Repeat(texts, 3)
	for n := range len(lines) + 1 {
		s := ""
		for _, text := range texts[:n] {
			s += text + "\n"
		}
		got, at, e := script.Parse(s)
		list(t, fmt.Sprint(n, " lines"), got, lines[:n]...)
		want(t, fmt.Sprint(n, " lines: the error"), e, api.OK)
		want(t, fmt.Sprint(n, " lines: the line"), at, 0)
		if n > 0 {
			unparsed(t, "without the last byte 10", s[:len(s)-1], n, api.ErrSyntax)
		}
	}
}

// TestParseAgain: lists of lines are new each time.
func TestParseAgain(t *testing.T) {
	first, _, _ := script.Parse("tick 5\nflush\n")
	first[0].Op.N, first[1].Kind = 7, 14
	again, _, _ := script.Parse("tick 5\nflush\n")
	tick, _ := told(4, 5)
	list(t, "again", again, tick, plain(10))
}

// TestParseLong: P31.1, more than 20000 bytes, whatever they are; at line 0.
func TestParseLong(t *testing.T) {
	whole := strings.Repeat("flush\n", 3332) + "tick 56\n" // 20000 bytes
	want(t, "bytes", len(whole), 20000)
	l, at, e := script.Parse(whole)
	want(t, "20000 bytes", e == api.OK && at == 0 && len(l) == 3333, true)
	unparsed(t, "20001 bytes", "tick 567\n"+strings.Repeat("flush\n", 3332), 0, api.ErrLong)
	unparsed(t, "20001 bytes, the last one too much", whole+"\n", 0, api.ErrLong)
	unparsed(t, "20001 bytes, wrong from the first on", "?"+whole, 0, api.ErrLong)
	unparsed(t, "20001 bytes without an end", strings.Repeat("x", 20001), 0, api.ErrLong)
	unparsed(t, "20000 bytes, the first wrong", "?"+whole[1:], 1, api.ErrSyntax)
	unparsed(t, "20000 bytes, the last one missing", whole[:19999]+"7", 3333, api.ErrSyntax)
	unparsed(t, "20000 bytes without an end", strings.Repeat("x", 20000), 1, api.ErrSyntax)
	unparsed(t, "20000 blanks", strings.Repeat(" ", 20000), 1, api.ErrSyntax)
	unparsed(t, "20000 bytes 10", strings.Repeat("\n", 20000), 1, api.ErrSyntax)
	unparsed(t, "a million bytes", strings.Repeat("flush\n", 200000), 0, api.ErrLong)
}

// wrong: texts that no line prints as, by hand.
func wrong() []string {
	return []string{
		"", " ", "  ", "\t", "\r", "\x00", "#", "5", "-", "0",
		"flush ", " flush", "flush 0", "flush  ", "flush\r", "flush\x00", "Flush", "FLUSH", "flus", "flushh", "fly", "flush flush", "flush\tflush",
		"tick", "tick ", "tick  1", " tick 1", "tick 1 ", "tick\t1", "tick 1\r", "tick 1\x00", "Tick 1", "tic 1", "tickk 1", "tick1", "tick 1 0", "tick 1 1", "tick 1  ",
		"tick 01", "tick 00", "tick -0", "tick -1", "tick +1", "tick --1", "tick 1-", "tick 0x1", "tick 1_0", "tick 1e1", "tick 1.0", "tick 1,000", "tick x", "tick \"1\"", "tick ١", "tick １", "tick \xb1",
		"tick 18446744073709551616", "tick 18446744073709551625", "tick 99999999999999999999", "tick 184467440737095516150", "tick -18446744073709551615", "tick 1" + strings.Repeat("0", 300),
		"fuse", "fuse ", "fuse 1 0", "fuse 01", "fuse -01", "fuse -0", "fuse +1", "fuse - 1", "fuse --1", "fuse -", "fuse 9223372036854775808", "fuse -9223372036854775809", "fuse 18446744073709551615",
		"fault", "fault 1 0", "crash", "crash 0 0", "crash x", "crash -", "compact", "compact 1", "compact 1 ", "compact 1 2 3", "compact 1  2", "compact -0 0", "compact 0 -0",
		"place 1 1 1 10 5", "place 1 1 1 10 5 0 0", "place 1 -1 1 10 5 0", "place 1 1 -1 10 5 0", "place 1 2147483648 1 10 5 0", "place 1 1 2147483648 10 5 0", "place 1 4294967297 1 10 5 0",
		"place -1 1 1 10 5 0", "place 1 1 1 10 5 -1", "place 1 1 1 9223372036854775808 5 0", "place 1 1 1 10 -9223372036854775809 0", "place buy 1 1 10 5 0",
		"place 1 1 1 18446744073709551606 5 0", "deposit 1 2147483648 1", "deposit 1 -1 1", "deposit 1 1", "withdraw 1 9223372036854775808 1", "withdraw 1 99999999999999999999 1",
		"depth 1 2147483648", "depth 2147483648 1", "depth -1 1", "depth 1 -1", "depth 1", "depth 1 1 1", "depth", "status", "status -1", "status 1 1", "money", "money 1 1", "money -1", "money -",
		"cancel 1", "cancel 1 1 1", "amend 1 1 1", "amend 1 1 1 1 1", "amend 1 -1 1 1", "amend -1 1 1 1", "amend 1 1 +1 1", "amend 1 1 1 +1", "amend 1 1 01 1", "amend 1 1 1 -01",
		"\xff", "tick \xff", "tick 1\xff", "\xef\xbb\xbftick 1", "tick\u00a01", "tick\u20031",
	}
}

// TestParseSyntax: P31.1, the first line that no Line prints as, wherever it stands, and whatever follows.
func TestParseSyntax(t *testing.T) {
	_, texts := good()
	ahead := strings.Join(texts, "\n") + "\n"
	for _, s := range wrong() {
		unparsed(t, "alone", s+"\n", 1, api.ErrSyntax)
		if s != "" {
			unparsed(t, "alone, without an end", s, 1, api.ErrSyntax)
			unparsed(t, "last, without an end", ahead+s, len(texts)+1, api.ErrSyntax)
		}
		unparsed(t, "first", s+"\n"+ahead, 1, api.ErrSyntax)
		unparsed(t, "last", ahead+s+"\n", len(texts)+1, api.ErrSyntax)
		unparsed(t, "among others", "flush\n"+s+"\n"+ahead, 2, api.ErrSyntax)
		unparsed(t, "twice", "flush\ntick 3\n"+s+"\nflush\n"+s+"\n", 3, api.ErrSyntax)
	}
	for s, at := range map[string]int{"tick 1": 1, "tick 1\ntick 2": 2, "tick 1\n\n": 2, "\ntick 1\n": 1, "tick 1\n\ntick 2\n": 2, "tick 1\n tick 2\n": 2, "flush\nfly\n": 2, "tick 1 flush\n": 1, "tick 1\r\ntick 2\r\n": 1, "tick\n1\n": 1} {
		unparsed(t, "lines", s, at, api.ErrSyntax)
	}
}

// TestParseAltered: P31.1, good lines with one byte more, less, or another one are lines only where they print so.
func TestParseAltered(t *testing.T) {
	_, texts := good()
	for _, s := range texts {
		for i := range len(s) + 1 {
			for _, c := range []string{"", " ", "0", "1", "9", "-", "+", "\t", "\n", "x", "\x00"} {
				judged(t, s[:i]+c+s[i:]+"\n")
				if i < len(s) {
					judged(t, s[:i]+c+s[i+1:]+"\n")
				}
			}
			judged(t, s[:i])
		}
	}
}

var decimal = regexp.MustCompile(`^(0|-?[1-9][0-9]*)$`)

// number: a field's number of a text, told once more; is it one?
func number(field, s string) (uint64, bool) {
	if !decimal.MatchString(s) {
		return 0, false
	}
	n, _ := new(big.Int).SetString(s, 10)
	least, greatest := big.NewInt(0), new(big.Int).SetUint64(end)
	if isSmall(field) {
		greatest = big.NewInt(1<<31 - 1)
	}
	if isSigned(field) {
		least, greatest = big.NewInt(-1<<63), big.NewInt(1<<63-1)
	}
	if n.Cmp(least) < 0 || n.Cmp(greatest) > 0 {
		return 0, false
	}
	if n.Sign() < 0 {
		return uint64(n.Int64()), true
	}
	return n.Uint64(), true
}

// parsed: the lines of a text, told once more.
func parsed(s string) ([]script.Line, int, api.Errno) {
	if len(s) > 20000 {
		return nil, 0, api.ErrLong
	}
	var all []script.Line
	for s != "" {
		text, rest, ended := strings.Cut(s, "\n")
		words := strings.Split(text, " ")
		found := false
		for kind, names := range tells() {
			if !ended || names[0] != words[0] || len(names) != len(words) {
				continue
			}
			l := plain(kind)
			found = true
			for i, field := range names[1:] {
				n, ok := number(field, words[i+1])
				found = found && ok
				set(&l, field, n)
			}
			if found {
				all = append(all, l)
			}
		}
		if !found {
			return nil, len(all) + 1, api.ErrSyntax
		}
		s = rest
	}
	return all, 0, api.OK
}

// judged: Parse answers what the reader that is told once more does; what is parsed prints so.
func judged(t *testing.T, s string) ([]script.Line, api.Errno) {
	t.Helper()
	l, n, e := script.Parse(s)
	lines, at, wanted := parsed(s)
	if n != at || e != wanted || !slices.Equal(l, lines) {
		t.Errorf("%q: %v, line %d, %v, wanted %v, line %d, %v", s, l, n, e, lines, at, wanted)
	}
	again := ""
	for _, x := range l {
		text, e := script.Print(x)
		want(t, fmt.Sprintf("%q: Print of %+v", s, x), e, api.OK)
		again += text + "\n"
	}
	if e == api.OK {
		want(t, "printed again", again, s)
	}
	return l, e
}

// TestParseShort: P31.1, all texts of few bytes.
func TestParseShort(t *testing.T) {
	for a := range 256 {
		judged(t, string([]byte{byte(a)}))
		for b := range 256 {
			judged(t, string([]byte{byte(a), byte(b)}))
			judged(t, "tick "+string([]byte{byte(a), byte(b)})+"\n")
			judged(t, "crash "+string([]byte{byte(a), byte(b)})+"\n")
			judged(t, "flush"+string([]byte{byte(a), byte(b)}))
			judged(t, "compact"+string([]byte{byte(a)})+"1"+string([]byte{byte(b)})+"2\n")
		}
	}
}

// text: some lines by dice, mostly good ones.
func (d *dice) text() string {
	numbers := []string{"0", "1", "7", "10", "32", "500", "-1", "-20", "2147483647", "2147483648", "9223372036854775807", "9223372036854775808", "-9223372036854775808", "-9223372036854775809", "18446744073709551615", "18446744073709551616"}
	var b strings.Builder
	for range d.below(6) {
		kind := 1 + d.below(14)
		names := tells()[kind]
		b.WriteString(names[0])
		for _, field := range names[1:] {
			n := numbers[d.below(6)]
			if d.one(8) {
				n = numbers[d.below(len(numbers))]
			}
			if d.one(10) {
				v := values(field)
				n = textOf(field, v[d.below(len(v))])
			}
			b.WriteString(" " + n)
		}
		if d.one(60) {
			b.WriteString([]string{" ", " 0", "0", "-", "\r", "x", "\t"}[d.below(7)])
		}
		if !d.one(60) {
			b.WriteString("\n")
		}
	}
	s := b.String()
	if d.one(10) && s != "" {
		i := d.below(len(s))
		s = s[:i] + []string{"", " ", "0", "-", "\n", "5"}[d.below(6)] + s[i+d.below(2):]
	}
	return s
}

// TestParseModel: P31.1, P31.3, texts by dice, against a reader that is told once more.
func TestParseModel(t *testing.T) {
	d := dice(311)
	seen := map[api.Errno]int{}
	kinds := map[int]int{}
	for range 60000 {
		l, e := judged(t, d.text())
		seen[e]++
		for _, x := range l {
			kinds[x.Kind]++
		}
		if t.Failed() {
			return
		}
	}
	want(t, fmt.Sprint("the dice made both: ", seen), seen[api.OK] > 5000 && seen[api.ErrSyntax] > 5000, true)
	for kind := range tells() {
		want(t, fmt.Sprint("the dice made the kind ", kind), kinds[kind] > 500, true)
	}
}
