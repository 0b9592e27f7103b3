package key_test

import (
	"fmt"
	"math"
	"slices"
	"strings"
	"testing"

	"bourse/api"
	"bourse/key"
)

// want: a test fails, if something is another thing than was wanted.
func want[T comparable](t *testing.T, what string, got, wanted T) {
	t.Helper()
	if got != wanted {
		t.Errorf("%s: %v, wanted %v", what, got, wanted)
	}
}

// made: a row's key, which it must have.
func made(t *testing.T, l ...key.Part) string {
	t.Helper()
	k, e := key.Make(l...)
	if e != api.OK {
		t.Fatalf("Make(%v): %v", l, e)
	}
	return k
}

// TestPart: P4.1, its sort and what counts of it; all else is zero.
func TestPart(t *testing.T) {
	for _, n := range []int64{0, 1, -1, math.MinInt64, math.MaxInt64} {
		want(t, "Up", key.Up(n), key.Part{Sort: 'i', N: n})
		want(t, "Down", key.Down(n), key.Part{Sort: 'd', N: n})
	}
	for _, n := range []uint64{0, 1, 1 << 63, math.MaxUint64} {
		want(t, "Count", key.Count(n), key.Part{Sort: 'u', U: n})
	}
	for _, s := range []string{"", "a", "\x00\xff", strings.Repeat("x", 300)} {
		want(t, "Text", key.Text(s), key.Part{Sort: 't', S: s})
	}
}

// examples: rows and their keys, by hand.
func examples() map[string][]key.Part {
	return map[string][]key.Part{
		"":                                            {},
		"i\x80\x00\x00\x00\x00\x00\x00\x00":           {key.Up(0)},
		"i\x80\x00\x00\x00\x00\x00\x00\x01":           {key.Up(1)},
		"i\x7f\xff\xff\xff\xff\xff\xff\xff":           {key.Up(-1)},
		"i\x81\x02\x03\x04\x05\x06\x07\x08":           {key.Up(0x0102030405060708)},
		"i\x00\x00\x00\x00\x00\x00\x00\x00":           {key.Up(math.MinInt64)},
		"i\xff\xff\xff\xff\xff\xff\xff\xff":           {key.Up(math.MaxInt64)},
		"d\x7f\xff\xff\xff\xff\xff\xff\xff":           {key.Down(0)},
		"d\x7f\xff\xff\xff\xff\xff\xff\xfe":           {key.Down(1)},
		"d\x80\x00\x00\x00\x00\x00\x00\x00":           {key.Down(-1)},
		"d\xff\xff\xff\xff\xff\xff\xff\xff":           {key.Down(math.MinInt64)},
		"d\x00\x00\x00\x00\x00\x00\x00\x00":           {key.Down(math.MaxInt64)},
		"u\x00\x00\x00\x00\x00\x00\x00\x00":           {key.Count(0)},
		"u\x01\x02\x03\x04\x05\x06\x07\x08":           {key.Count(0x0102030405060708)},
		"u\xff\xff\xff\xff\xff\xff\xff\xff":           {key.Count(math.MaxUint64)},
		"t\x00\x00":                                   {key.Text("")},
		"tabc\x00\x00":                                {key.Text("abc")},
		"t\x00\xff\x00\x00":                           {key.Text("\x00")},
		"t\x00\xff\x00\xff\x00\x00":                   {key.Text("\x00\x00")},
		"t\xff\x00\x00":                               {key.Text("\xff")},
		"t\x00\xff\xff\x00\x00":                       {key.Text("\x00\xff")},
		"t\xff\x00\xff\x00\x00":                       {key.Text("\xff\x00")},
		"ta\x00\xffb\x00\x00":                         {key.Text("a\x00b")},
		"tZ\xc3\xbcrich\x00\x00":                      {key.Text("Zürich")},
		"t\x00\x00t\x00\x00":                          {key.Text(""), key.Text("")},
		"ti\x00\x00u\x00\x00\x00\x00\x00\x00\x00\x02": {key.Text("i"), key.Count(2)},
		"u\x00\x00\x00\x00\x00\x00\x00\x02tu\x00\x00": {key.Count(2), key.Text("u")},
		"i\x80\x00\x00\x00\x00\x00\x00\x03d\x7f\xff\xff\xff\xff\xff\xff\xfc": {key.Up(3), key.Down(3)},
	}
}

// TestExamples: P4.1, both ways.
func TestExamples(t *testing.T) {
	for k, l := range examples() {
		got, e := key.Make(l...)
		if got != k || e != api.OK {
			t.Errorf("Make(%v): %x, %v, wanted %x", l, got, e, k)
		}
		parts, e := key.Parts(k)
		if !slices.Equal(parts, l) || e != api.OK {
			t.Errorf("Parts(%x): %v, %v, wanted %v", k, parts, e, l)
		}
	}
}

// TestWhatDoesNotCount: P4.1, it makes no difference to Make, and is zero in what Parts answers.
func TestWhatDoesNotCount(t *testing.T) {
	for _, p := range []key.Part{key.Up(-7), key.Down(-7), key.Count(7), key.Text("x")} {
		full := key.Part{Sort: p.Sort, N: -7, U: 7, S: "x"}
		k := made(t, full)
		want(t, "Make", k, made(t, p))
		l, e := key.Parts(k)
		if e != api.OK || !slices.Equal(l, []key.Part{p}) {
			t.Errorf("Parts(%x): %v, %v, wanted %v", k, l, e, p)
		}
	}
	full := key.Part{Sort: 'u', U: 7, S: strings.Repeat("x", 1000)}
	want(t, "a text of a count", made(t, full), made(t, key.Count(7)))
}

// TestMakeErrors: P4.1, the first such thing, part by part.
func TestMakeErrors(t *testing.T) {
	of := func(length int) key.Part { return key.Text(strings.Repeat("x", length)) } // has three bytes more
	zeros := func(length int) key.Part { return key.Text(strings.Repeat("\x00", length)) }
	wrong := key.Part{Sort: 'x'}
	counts := func(n int) []key.Part { return slices.Repeat([]key.Part{key.Count(1)}, n) } // nine bytes each
	for _, c := range []struct {
		what string
		l    []key.Part
		want api.Errno
	}{
		{"no part", nil, api.OK},
		{"200 bytes", []key.Part{of(197)}, api.OK},
		{"201 bytes", []key.Part{of(198)}, api.ErrLong},
		{"a text of 200 bytes", []key.Part{of(200)}, api.ErrLong},
		{"a text of 201 bytes", []key.Part{of(201)}, api.ErrLong},
		{"a long text", []key.Part{of(100000)}, api.ErrLong},
		{"199 bytes, of bytes 0", []key.Part{zeros(98)}, api.OK},
		{"201 bytes, of bytes 0", []key.Part{zeros(99)}, api.ErrLong},
		{"200 bytes, of bytes 0 and another one", []key.Part{key.Text(strings.Repeat("\x00", 98) + "x")}, api.OK},
		{"198 bytes of counts", counts(22), api.OK},
		{"207 bytes of counts", counts(23), api.ErrLong},
		{"many counts", counts(5000), api.ErrLong},
		{"200 bytes in parts", append(counts(21), of(8)), api.OK},
		{"201 bytes in parts", append(counts(21), of(9)), api.ErrLong},
		{"200 bytes, a number last", []key.Part{of(188), key.Up(1)}, api.OK},
		{"201 bytes, a rising number last", []key.Part{of(189), key.Up(1)}, api.ErrLong},
		{"201 bytes, a falling number last", []key.Part{of(189), key.Down(1)}, api.ErrLong},
		{"the zero part", []key.Part{{}}, api.ErrKind},
		{"no such sort", []key.Part{wrong}, api.ErrKind},
		{"no such sort, and a long text in it", []key.Part{{Sort: 'x', S: strings.Repeat("x", 300)}}, api.ErrKind},
		{"no such sort, then 201 bytes", []key.Part{wrong, of(198)}, api.ErrKind},
		{"201 bytes, then no such sort", []key.Part{of(198), wrong}, api.ErrLong},
		{"a long text, then no such sort", []key.Part{of(1000), wrong}, api.ErrLong},
		{"207 bytes of counts, then no such sort", append(counts(23), wrong), api.ErrLong},
		{"198 bytes of counts, then no such sort", append(counts(22), wrong), api.ErrKind},
		{"200 bytes, then no such sort", []key.Part{of(197), wrong}, api.ErrKind},
		{"200 bytes, then no such sort, then more", []key.Part{of(197), wrong, of(1)}, api.ErrKind},
	} {
		k, e := key.Make(c.l...)
		want(t, c.what, e, c.want)
		if e != api.OK {
			want(t, c.what+": bytes", k, "")
		}
	}
}

// TestSorts: P4.1, four of all bytes.
func TestSorts(t *testing.T) {
	for sort := range 256 {
		wanted := api.OK
		if !strings.Contains("idut", string(rune(sort))) {
			wanted = api.ErrKind
		}
		_, e := key.Make(key.Part{Sort: byte(sort)})
		want(t, fmt.Sprintf("Make of the sort %d", sort), e, wanted)
		if wanted == api.ErrKind {
			for _, k := range []string{"", "\x00\x00", "12345678"} {
				noKey(t, string([]byte{byte(sort)})+k)
			}
		}
	}
}

func noKey(t *testing.T, k string) {
	t.Helper()
	if l, e := key.Parts(k); len(l) != 0 || e != api.ErrKey {
		t.Errorf("Parts(%x): %v, %v", k, l, e)
	}
}

// TestPartsOfNoKey: P4.1, bytes that no row has.
func TestPartsOfNoKey(t *testing.T) {
	for _, k := range []string{
		"\x00", "x", "I12345678",
		"i", "i1", "i1234567", "d1234567", "u1234567", "u12345678i", "u12345678i1234567",
		"i123456789", "i12345678 ", "i12345678x",
		"t", "ta", "t\x00", "ta\x00", "t\xff", "t\x00\xff", "t\x00\xff\x00", "ta\x00\xffb",
		"ta\x00b\x00\x00", "t\x00\x01", "t\x00\x01\x00\x00", "t\x00\xfe\x00\x00",
		"ta\x00\x00\x00", "ta\x00\x00x", "ta\x00\x00\xff", "ta\x00\x00ta\x00",
		"ta\x00\x00i1234567",
	} {
		noKey(t, k)
	}
}

// TestPartsOfBeginnings: P4.1, what isn't a whole row is none.
func TestPartsOfBeginnings(t *testing.T) {
	l := []key.Part{key.Text("a\x00"), key.Up(5), key.Text(""), key.Down(5), key.Text("\x00\xff"), key.Count(5)}
	whole := map[int]int{} // how many parts there are up to which place
	for i := range len(l) + 1 {
		whole[len(made(t, l[:i]...))] = i
	}
	k := made(t, l...)
	for i := range len(k) + 1 {
		n, ok := whole[i]
		if !ok {
			noKey(t, k[:i])
			continue
		}
		got, e := key.Parts(k[:i])
		if e != api.OK || !slices.Equal(got, l[:n]) {
			t.Errorf("Parts(%x): %v, %v, wanted %v", k[:i], got, e, l[:n])
		}
	}
}

// TestPartsLong: P4.1, 200 bytes and no more.
func TestPartsLong(t *testing.T) {
	text := func(length int) string { return "t" + strings.Repeat("x", length) + "\x00\x00" }
	l, e := key.Parts(text(197))
	want(t, "200 bytes", e, api.OK)
	want(t, "200 bytes: parts", len(l), 1)
	noKey(t, text(198))
	noKey(t, text(100000))
	counts := strings.Repeat("u12345678", 22)
	l, e = key.Parts(counts)
	want(t, "198 bytes", e, api.OK)
	want(t, "198 bytes: parts", len(l), 22)
	noKey(t, counts+"u12345678")
	noKey(t, counts+"t\x00\x00")
}

// TestMakeLeavesParts: what is handed in stays, and the answer has memory of its own.
func TestMakeLeavesParts(t *testing.T) {
	l := []key.Part{key.Text("a\x00"), key.Up(5), key.Count(1)}
	kept := slices.Clone(l)
	k := made(t, l[:2]...)
	if !slices.Equal(l, kept) {
		t.Errorf("the parts were changed: %v", l)
	}
	a, _ := key.Parts(k)
	b, _ := key.Parts(k)
	a[0] = key.Up(9)
	if !slices.Equal(b, l[:2]) {
		t.Errorf("two answers share memory: %v", b)
	}
}
