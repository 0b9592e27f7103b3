package batch_test

import (
	"encoding/binary"
	"fmt"
	"strings"
	"testing"

	"bourse/api"
	"bourse/batch"
)

const (
	zero    = "\x00\x00\x00\x00\x00\x00\x00\x00" // the number 0
	tooHigh = "\x00\x00\x00\x00\x00\x00\x00\x01" // 2^56
	nine    = "\xff\xff\xff\xff\xff\xff\xff\xff\xff"
)

// refused: an error, and nothing beside it.
func refused(t *testing.T, what, s string, wanted api.Errno) {
	t.Helper()
	b, e := batch.Parse(s)
	want(t, what, e, wanted)
	if e != api.OK && (b.Seq != 0 || len(b.Changes) != 0) {
		t.Errorf("%s: %v beside an error", what, b)
	}
}

// TestParseErrors: P6.1, by hand, and which one comes first.
func TestParseErrors(t *testing.T) {
	for _, c := range []struct {
		what, s string
		want    api.Errno
	}{
		{"nothing", "", api.ErrShort},
		{"a number of seven bytes", zero[1:], api.ErrShort},
		{"no number of changes", zero, api.ErrShort},
		{"no number of changes, above the greatest", tooHigh, api.ErrShort},
		{"half a number of changes", zero + "\x80", api.ErrShort},
		{"a number of changes that is longer than it needs", zero + "\x80\x00", api.ErrForm},
		{"a number of changes above all", zero + nine + "\x02", api.ErrRange},
		{"the utmost number of changes", zero + nine + "\x01", api.ErrMany},
		{"2^32 changes", zero + "\x80\x80\x80\x80\x10", api.ErrMany},
		{"2001 changes, known at once", zero + "\xd1\x0f", api.ErrMany},
		{"2001 changes, all there", zero + "\xd1\x0f" + strings.Repeat("\x02\x01a", 2001), api.ErrMany},
		{"2001 changes, wrong ones", zero + "\xd1\x0f\x03", api.ErrMany},
		{"2001 changes, above the greatest number", tooHigh + "\xd1\x0f", api.ErrMany},
		{"2000 changes, none there", zero + "\xd0\x0f", api.ErrShort},
		{"2000 changes, one lacks", zero + "\xd0\x0f" + strings.Repeat("\x02\x01a", 1999), api.ErrShort},
		{"a change, not there", zero + "\x01", api.ErrShort},
		{"the kind 0", zero + "\x01\x00\x01a\x00", api.ErrKind},
		{"the kind 3", zero + "\x01\x03\x01a\x00", api.ErrKind},
		{"the kind 129", zero + "\x01\x81\x01a\x00", api.ErrKind},
		{"the kind 255, and nothing", zero + "\x01\xff", api.ErrKind},
		{"a kind alone", zero + "\x01\x01", api.ErrShort},
		{"half a key's number", zero + "\x01\x01\x80", api.ErrShort},
		{"a key's number that is longer than it needs", zero + "\x01\x01\x81\x00a\x00", api.ErrForm},
		{"a key's number above all", zero + "\x01\x02" + nine + "\x02", api.ErrRange},
		{"a key that is cut", zero + "\x01\x01\x02a", api.ErrShort},
		{"a key of 200 that is cut", zero + "\x01\x02\xc8\x01" + x(199), api.ErrShort},
		{"a key of 201", zero + "\x01\x02\xc9\x01" + x(201), api.ErrLong},
		{"a key of 201, known at once", zero + "\x01\x01\xc9\x01", api.ErrLong},
		{"a key of the utmost length", zero + "\x01\x01" + nine + "\x01a", api.ErrLong},
		{"no value", zero + "\x01\x01\x01a", api.ErrShort},
		{"a value's number that is longer than it needs", zero + "\x01\x01\x01a\x80\x00", api.ErrForm},
		{"a value's number above all", zero + "\x01\x01\x01a" + nine + "\xff", api.ErrRange},
		{"a value that is cut", zero + "\x01\x01\x01a\x031", api.ErrShort},
		{"a value of 4096 that is cut", zero + "\x01\x01\x01a\x80\x20" + x(4095), api.ErrShort},
		{"a value of 4097", zero + "\x01\x01\x01a\x81\x20" + x(4097), api.ErrLong},
		{"a value of 4097, known at once", zero + "\x01\x01\x01a\x81\x20", api.ErrLong},
		{"more behind no changes", zero + "\x00\x00", api.ErrForm},
		{"more behind a change", zero + "\x01\x01\x01a\x00\x00", api.ErrForm},
		{"a Delete's value", zero + "\x01\x02\x01a\x011", api.ErrForm},
		{"a change too many", zero + "\x01\x02\x01a\x02\x01a", api.ErrForm},
		// Check's, behind all of the reader's.
		{"no key", zero + "\x01\x01\x00\x011", api.ErrKey},
		{"no key of a Delete", zero + "\x01\x02\x00", api.ErrKey},
		{"no key, and it is cut", zero + "\x01\x01\x00", api.ErrShort},
		{"no key, and a long value", zero + "\x01\x01\x00\x81\x20", api.ErrLong},
		{"no key, then no kind", zero + "\x02\x02\x00\x03", api.ErrKind},
		{"no key, and more", zero + "\x01\x02\x00\x00", api.ErrForm},
		{"above the greatest number", tooHigh + "\x00", api.ErrRange},
		{"above the greatest number, and more", tooHigh + "\x00\x00", api.ErrForm},
		{"above the greatest number, and no kind", tooHigh + "\x01\x03", api.ErrKind},
		{"above the greatest number, and no key", tooHigh + "\x01\x02\x00", api.ErrKey},
		{"above the greatest number, with a change", tooHigh + "\x01\x02\x01a", api.ErrRange},
		{"the utmost number", nine[1:] + "\x00", api.ErrRange},
		{"the utmost number, then round", nine[1:] + "\x02\x02\x01a\x02\x01a", api.ErrRange},
		{"the last one above the greatest number", nine[2:] + "\x00\x02\x02\x01a\x02\x01a", api.ErrRange},
	} {
		refused(t, c.what, c.s, c.want)
	}
}

// TestCutAndMore: P6.1, bytes that are cut anywhere lack something, and none may go on.
func TestCutAndMore(t *testing.T) {
	for s := range examples() {
		step := 1 + len(s)/1000
		for cut := 0; cut < len(s); cut += step {
			refused(t, fmt.Sprintf("%x, cut at %d", short(s), cut), s[:cut], api.ErrShort)
		}
		refused(t, "cut by one", s[:len(s)-1], api.ErrShort)
		for _, more := range []string{"\x00", "\x01", "\x02", "\xff", "\x02\x01a", s} {
			refused(t, fmt.Sprintf("%x, and %x", short(s), short(more)), s+more, api.ErrForm)
		}
	}
}

// reader: layer 3's, told once more by the library.
type reader struct {
	left string
	err  api.Errno
}

func (r *reader) fail(e api.Errno) {
	if r.err == api.OK {
		r.err = e
	}
}

func (r *reader) take(n int) string {
	if len(r.left) < n {
		r.fail(api.ErrShort)
	}
	if r.err != api.OK {
		return strings.Repeat("\x00", n)
	}
	s := r.left[:n]
	r.left = r.left[n:]
	return s
}

func (r *reader) num() uint64 {
	// The library doesn't say that a tenth byte is too many, where nothing is behind it.
	n, length := binary.Uvarint([]byte(r.left + "\x00"))
	switch {
	case length < 0:
		r.fail(api.ErrRange)
	case length > len(r.left):
		r.fail(api.ErrShort)
	case length > 1 && r.left[length-1] == 0:
		r.fail(api.ErrForm)
	}
	if r.err != api.OK {
		return 0
	}
	r.left = r.left[length:]
	return n
}

func (r *reader) text(most uint64) string {
	n := r.num()
	if n > most {
		r.fail(api.ErrLong)
		return ""
	}
	return r.take(int(n))
}

// parsed: Parse told once more: all is read, wrong or not, and looked at then.
func parsed(s string) (batch.Batch, api.Errno) {
	r := &reader{left: s}
	b := batch.Batch{Seq: binary.LittleEndian.Uint64([]byte(r.take(8)))}
	n := r.num()
	if n > 2000 {
		r.fail(api.ErrMany)
		n = 0
	}
	for range n {
		c := api.Change{Kind: int(r.take(1)[0])}
		if c.Kind < 1 || c.Kind > 2 {
			r.fail(api.ErrKind)
		}
		c.Key = r.text(200)
		if c.Kind == 1 {
			c.Value = r.text(4096)
		}
		b.Changes = append(b.Changes, c)
	}
	if r.left != "" {
		r.fail(api.ErrForm)
	}
	for _, c := range b.Changes {
		if c.Key == "" {
			r.fail(api.ErrKey)
		}
	}
	if b.Seq >= 1<<56 || b.Seq+n > 1<<56 {
		r.fail(api.ErrRange)
	}
	if r.err != api.OK {
		return batch.Batch{}, r.err
	}
	return b, api.OK
}

// asModel: Parse answers what the model does; what is read would be written so.
func asModel(t *testing.T, s string) api.Errno {
	t.Helper()
	b, e := batch.Parse(s)
	wanted, f := parsed(s)
	if e != f || !equal(b, wanted) {
		t.Errorf("Parse(%x): %v, %v, wanted %v, %v", short(s), b, e, wanted, f)
	}
	if e == api.OK {
		again, _ := b.Bytes()
		same(t, "written again", again, s)
	}
	return e
}

// TestAllSmall: P6.1 and P6.3, all texts of up to seven bytes out of five behind a number.
func TestAllSmall(t *testing.T) {
	l := []string{""}
	for i := 0; len(l[i]) < 7; i++ {
		for _, b := range []string{"\x00", "\x01", "\x02", "\x03", "\x80"} {
			l = append(l, l[i]+b)
		}
	}
	seen := map[api.Errno]int{}
	for _, s := range l {
		for _, seq := range []string{zero, tooHigh, nine[2:] + "\x00"} {
			seen[asModel(t, seq+s)]++
		}
		if t.Failed() {
			return
		}
	}
	for _, e := range []api.Errno{api.OK, api.ErrShort, api.ErrForm, api.ErrMany, api.ErrKind, api.ErrLong, api.ErrKey, api.ErrRange} {
		if seen[e] < 10 {
			t.Errorf("the bytes made %v %d times alone", e, seen[e])
		}
	}
}

// dice: numbers that look like chance, the same each time.
type dice uint64

func (d *dice) below(n int) int {
	*d = *d*6364136223846793005 + 1442695040888963407
	return int(uint64(*d>>33) % uint64(n))
}

func (d *dice) text(most int) string {
	b := make([]byte, d.below(most+1))
	for i := range b {
		b[i] = byte(d.below(256))
	}
	return string(b)
}

// batch: one that may be, mostly.
func (d *dice) batch() batch.Batch {
	b := batch.Batch{Seq: []uint64{0, 1, uint64(d.below(1 << 30)), batch.Top - uint64(d.below(12)), batch.Top + 1}[d.below(5)]}
	for range d.below(10) {
		c := del(d.text([]int{3, 130, 200}[d.below(3)]))
		if d.below(2) == 0 {
			c = put(c.Key, d.text([]int{0, 3, 300, 4096}[d.below(4)]))
		}
		b.Changes = append(b.Changes, c)
	}
	return b
}

// TestThereAndBack: P6.3, by dice; and bytes of which one is another one, or lacks.
func TestThereAndBack(t *testing.T) {
	d := dice(2)
	written := 0
	for range 3000 {
		b := d.batch()
		s, e := b.Bytes()
		want(t, "Bytes", e, b.Check())
		if e != api.OK {
			continue
		}
		written++
		back, e := batch.Parse(s)
		want(t, "read as it was", e == api.OK && batch.Same(back, b) && equal(back, b), true)
		for range 6 {
			at := d.below(min(len(s), 40)) // most of what tells lengths is there
			asModel(t, s[:at]+string([]byte{byte(d.below(256))})+s[at+1:])
			asModel(t, s[:at]+s[at+1:])
		}
		if t.Failed() {
			return
		}
	}
	if written < 1000 {
		t.Errorf("%d batches alone were written", written)
	}
}
