package edit_test

import (
	"encoding/binary"
	"fmt"
	"math"
	"strings"
	"testing"

	"bourse/api"
	"bourse/edit"
)

const (
	told = "\x00\x00\x00"                         // none of the three numbers
	nine = "\xff\xff\xff\xff\xff\xff\xff\xff\xff" // of a number's ten bytes
	file = "\x00\x01\x05\x01\x01a\x01b"           // number 1, from a to b, that comes to level 0
	goes = "\x02\x07"                             // number 7, that goes from level 2
)

// refused: an error, and nothing beside it.
func refused(t *testing.T, what, s string, wanted api.Errno) {
	t.Helper()
	e, err := edit.Parse(s)
	want(t, what, err, wanted)
	if err != api.OK && (e.Log != 0 || e.Next != 0 || e.Seq != 0 || len(e.Come) != 0 || len(e.Go) != 0) {
		t.Errorf("%s: %v beside an error", what, e)
	}
}

// TestParseErrors: P12.1, by hand, and which one comes first.
func TestParseErrors(t *testing.T) {
	const one, none = told + "\x01", told + "\x00"
	for _, c := range []struct {
		what, s string
		want    api.Errno
	}{
		{"nothing", "", api.ErrShort},
		{"one number", "\x00", api.ErrShort},
		{"two numbers", "\x00\x00", api.ErrShort},
		{"three numbers", told, api.ErrShort},
		{"half a number", "\x00\x80", api.ErrShort},
		{"Log in two bytes, where one would do", "\x80\x00\x00\x00\x00\x00", api.ErrForm},
		{"Next in three bytes, where two would do", "\x00\x80\x81\x00\x00\x00\x00", api.ErrForm},
		{"Seq in ten bytes, where one would do", "\x00\x00" + "\x81\x80\x80\x80\x80\x80\x80\x80\x80\x00" + "\x00\x00", api.ErrForm},
		{"Log above all", nine + "\x02\x00\x00\x00\x00", api.ErrRange},
		{"Next of eleven bytes", "\x00" + nine + "\x81\x00\x00\x00\x00", api.ErrRange},
		{"Seq above all, and nothing", "\x00\x00" + nine + "\x02", api.ErrRange},

		{"how many come, in two bytes, where one would do", told + "\x80\x00\x00", api.ErrForm},
		{"how many come, above all", told + nine + "\x02\x00", api.ErrRange},
		{"201 come, known at once", told + "\xc9\x01", api.ErrMany},
		{"201 come, all there", told + "\xc9\x01" + strings.Repeat(file, 201) + "\x00", api.ErrMany},
		{"201 come, wrong ones", told + "\xc9\x01\x04", api.ErrMany},
		{"2^32 come", told + "\x80\x80\x80\x80\x10" + file, api.ErrMany},
		{"2^64 - 1 come", told + nine + "\x01" + file, api.ErrMany},
		{"200 come, none there", told + "\xc8\x01", api.ErrShort},
		{"200 come, one lacks", told + "\xc8\x01" + strings.Repeat(file, 199), api.ErrShort},
		{"one comes, none there", one, api.ErrShort},

		{"the level 4", one + "\x04" + file[1:] + "\x00", api.ErrLevel},
		{"the level 4, known at once", one + "\x04", api.ErrLevel},
		{"the level 127", one + "\x7f", api.ErrLevel},
		{"the level 256", one + "\x80\x02" + file[1:] + "\x00", api.ErrLevel},
		{"the level 2^32", one + "\x80\x80\x80\x80\x10" + file[1:] + "\x00", api.ErrLevel},
		{"the level 2^63", one + strings.Repeat("\x80", 9) + "\x01" + file[1:] + "\x00", api.ErrLevel},
		{"the level 2^64 - 1", one + nine + "\x01" + file[1:] + "\x00", api.ErrLevel},
		{"the level above all", one + nine + "\x02" + file[1:] + "\x00", api.ErrRange},
		{"the level in two bytes", one + "\x84\x00", api.ErrForm},
		{"half a level", one + "\x84", api.ErrShort},
		{"the level 4 of the second one", told + "\x02" + file + "\x04", api.ErrLevel},
		{"the level 4, and a long key", one + "\x04\x01\x05\x01\xc9\x01", api.ErrLevel},

		{"a level alone", one + "\x00", api.ErrShort},
		{"a level and a number alone", one + "\x00\x01", api.ErrShort},
		{"no entries", one + "\x00\x01\x05", api.ErrShort},
		{"no keys", one + "\x00\x01\x05\x01", api.ErrShort},
		{"no second key", one + "\x00\x01\x05\x01\x01a", api.ErrShort},
		{"a number in two bytes, where one would do", one + "\x00\x81\x00\x05\x01\x01a\x01b\x00", api.ErrForm},
		{"a size in two bytes, where one would do", one + "\x00\x01\x85\x00\x01\x01a\x01b\x00", api.ErrForm},
		{"a count in two bytes, where one would do", one + "\x00\x01\x05\x81\x00\x01a\x01b\x00", api.ErrForm},
		{"a number above all", one + "\x00" + nine + "\x02", api.ErrRange},
		{"a size above all", one + "\x00\x01" + nine + "\x03", api.ErrRange},
		{"a count above all", one + "\x00\x01\x05" + nine + "\xff", api.ErrRange},

		{"a key's length in two bytes, where one would do", one + "\x00\x01\x05\x01\x81\x00a\x01b\x00", api.ErrForm},
		{"a key that is cut", one + "\x00\x01\x05\x01\x02a", api.ErrShort},
		{"a key of 200 that is cut", one + "\x00\x01\x05\x01\xc8\x01" + x(199), api.ErrShort},
		{"a least key of 201", one + "\x00\x01\x05\x01\xc9\x01" + x(201) + "\x01y\x00", api.ErrLong},
		{"a least key of 201, known at once", one + "\x00\x01\x05\x01\xc9\x01", api.ErrLong},
		{"a greatest key of 201", one + "\x00\x01\x05\x01\x01a\xc9\x01" + x(201) + "\x00", api.ErrLong},
		{"a greatest key of 201, known at once", one + "\x00\x01\x05\x01\x01a\xc9\x01", api.ErrLong},
		{"a key of the utmost length", one + "\x00\x01\x05\x01" + nine + "\x01a", api.ErrLong},
		{"a key whose length is above all", one + "\x00\x01\x05\x01" + nine + "\x02", api.ErrRange},
		{"an empty key, then one of 201", one + "\x00\x01\x05\x01\x00\xc9\x01", api.ErrLong},

		{"not told how many go", one + file, api.ErrShort},
		{"not told how many go, none comes", none, api.ErrShort},
		{"half of how many go", none + "\xc9", api.ErrShort},
		{"how many go, in two bytes, where one would do", none + "\x81\x00" + goes, api.ErrForm},
		{"how many go, above all", none + nine + "\x02", api.ErrRange},
		{"201 go, known at once", none + "\xc9\x01", api.ErrMany},
		{"201 go, all there", none + "\xc9\x01" + strings.Repeat(goes, 201), api.ErrMany},
		{"201 go, wrong ones", none + "\xc9\x01\x04", api.ErrMany},
		{"2^64 - 1 go", none + nine + "\x01" + goes, api.ErrMany},
		{"200 go, none there", none + "\xc8\x01", api.ErrShort},
		{"200 go, one lacks", none + "\xc8\x01" + strings.Repeat(goes, 199), api.ErrShort},
		{"one goes, none there", none + "\x01", api.ErrShort},
		{"one goes, its number lacks", none + "\x01\x02", api.ErrShort},
		{"from the level 4", none + "\x01\x04\x07", api.ErrLevel},
		{"from the level 4, known at once", none + "\x01\x04", api.ErrLevel},
		{"from the level 2^64 - 1", none + "\x01" + nine + "\x01\x07", api.ErrLevel},
		{"from the level 4, the second one", none + "\x02" + goes + "\x04", api.ErrLevel},
		{"what goes in two bytes, where one would do", none + "\x01\x02\x87\x00", api.ErrForm},
		{"what goes above all", none + "\x01\x02" + nine + "\x02", api.ErrRange},

		{"more behind nothing", none + "\x00\x00", api.ErrForm},
		{"more behind what comes", one + file + "\x00\x00", api.ErrForm},
		{"more behind what goes", none + "\x01" + goes + "\x00", api.ErrForm},
		{"one more comes", one + file + file + "\x00", api.ErrForm},
		{"one more goes", none + "\x01" + goes + goes, api.ErrForm},
		// Check's, behind all of the reader's.
		{"no least key", one + "\x00\x01\x05\x01\x00\x01b\x00", api.ErrKey},
		{"no greatest key", one + "\x00\x01\x05\x01\x01a\x00\x00", api.ErrKey},
		{"no keys at all", one + "\x00\x01\x05\x01\x00\x00\x00", api.ErrKey},
		{"keys turned round", one + "\x00\x01\x05\x01\x01b\x01a\x00", api.ErrKey},
		{"the number 0 comes", one + "\x00\x00\x05\x01\x01a\x01b\x00", api.ErrRange},
		{"the number 0 comes, without keys", one + "\x00\x00\x05\x01\x00\x00\x00", api.ErrKey},
		{"the number 0 comes, and goes", one + "\x00\x00\x05\x01\x01a\x01b\x01\x00\x00", api.ErrRange},
		{"the number 0 comes, then no keys", told + "\x02\x00\x00\x05\x01\x01a\x01b\x00\x01\x05\x01\x00\x00\x00", api.ErrRange},
		{"no keys, and it is cut", one + "\x00\x01\x05\x01\x00\x00", api.ErrShort},
		{"no keys, and more", one + "\x00\x01\x05\x01\x00\x00\x00\x00", api.ErrForm},
		{"no keys, then the level 4", told + "\x02\x00\x01\x05\x01\x00\x00\x04", api.ErrLevel},
		{"no keys, then from the level 4", one + "\x00\x01\x05\x01\x00\x00\x01\x04", api.ErrLevel},
		{"no keys, then too many go", one + "\x00\x01\x05\x01\x00\x00\xc9\x01", api.ErrMany},
		{"the number 0 goes, then the level 4", none + "\x02\x02\x00\x04", api.ErrLevel},
		{"the number 0 goes, and more", none + "\x01\x02\x00\x00", api.ErrForm},
	} {
		refused(t, c.what, c.s, c.want)
	}
}

// TestCutAndMore: P12.1, bytes that are cut anywhere lack something, and none may go on.
func TestCutAndMore(t *testing.T) {
	for s := range examples() {
		for cut := range len(s) {
			refused(t, fmt.Sprintf("%x, cut at %d", short(s), cut), s[:cut], api.ErrShort)
		}
		for _, more := range []string{"\x00", "\x01", "\x80", "\xff", goes, file, s} {
			refused(t, fmt.Sprintf("%x, and %x", short(s), short(more)), s+more, api.ErrForm)
		}
	}
}

// reader: layer 3's, told once more by the library.
type reader struct {
	left string
	err  api.Errno
}

func (r *reader) fail(e api.Errno) {
	if r.err == api.OK {
		r.err = e
	}
}

func (r *reader) num() uint64 {
	// The library doesn't say that a tenth byte is too many, where nothing is behind it.
	n, length := binary.Uvarint([]byte(r.left + "\x00"))
	switch {
	case length < 0:
		r.fail(api.ErrRange)
	case length > len(r.left):
		r.fail(api.ErrShort)
	case length > 1 && r.left[length-1] == 0:
		r.fail(api.ErrForm)
	}
	if r.err != api.OK {
		return 0
	}
	r.left = r.left[length:]
	return n
}

// most: a number that is at most so great, else that error.
func (r *reader) most(most uint64, e api.Errno) int {
	n := r.num()
	if n > most {
		r.fail(e)
		return 0
	}
	return int(n)
}

func (r *reader) text() string {
	n := r.most(200, api.ErrLong)
	if n > len(r.left) {
		r.fail(api.ErrShort)
	}
	if r.err != api.OK {
		return ""
	}
	s := r.left[:n]
	r.left = r.left[n:]
	return s
}

// parsed: Parse told once more: all is read, wrong or not, and looked at then.
func parsed(s string) (edit.Edit, api.Errno) {
	r := &reader{left: s}
	var e edit.Edit
	e.Log = r.num()
	e.Next = r.num()
	e.Seq = r.num()
	for range r.most(200, api.ErrMany) {
		var a edit.At
		a.Level = r.most(3, api.ErrLevel)
		a.File.Number = r.num()
		a.File.Size = r.num()
		a.File.Count = r.num()
		a.File.Least = r.text()
		a.File.Most = r.text()
		e.Come = append(e.Come, a)
	}
	for range r.most(200, api.ErrMany) {
		var g edit.Gone
		g.Level = r.most(3, api.ErrLevel)
		g.Number = r.num()
		e.Go = append(e.Go, g)
	}
	if r.left != "" {
		r.fail(api.ErrForm)
	}
	for _, a := range e.Come {
		// A greatest key that is empty is below each least one.
		if a.File.Least == "" || a.File.Least > a.File.Most {
			r.fail(api.ErrKey)
		}
		if a.File.Number == 0 {
			r.fail(api.ErrRange)
		}
	}
	if r.err != api.OK {
		return edit.Edit{}, r.err
	}
	return e, api.OK
}

// asModel: Parse answers what the model does; what is read would be written so.
func asModel(t *testing.T, s string) api.Errno {
	t.Helper()
	e, err := edit.Parse(s)
	wanted, f := parsed(s)
	if err != f || !equal(e, wanted) {
		t.Errorf("Parse(%x): %v, %v, wanted %v, %v", short(s), e, err, wanted, f)
	}
	if err == api.OK {
		again, _ := e.Bytes()
		same(t, "written again", again, s)
	}
	return err
}

// TestAllSmall: P12.1 and P12.3, all texts of up to seven bytes out of five, behind some beginnings.
func TestAllSmall(t *testing.T) {
	l := []string{""}
	for i := 0; len(l[i]) < 7; i++ {
		for _, b := range []string{"\x00", "\x01", "\x02", "\x04", "\x80"} {
			l = append(l, l[i]+b)
		}
	}
	seen := map[api.Errno]int{}
	for _, s := range l {
		for _, first := range []string{"", told + "\x01\x00", told + "\x01\x03\x01\x01\x01", told + "\x00", told + "\x02" + file, "\x00\x00" + nine} {
			seen[asModel(t, first+s)]++
		}
		if t.Failed() {
			return
		}
	}
	for _, e := range []api.Errno{api.OK, api.ErrShort, api.ErrForm, api.ErrMany, api.ErrLevel, api.ErrKey, api.ErrRange} {
		if seen[e] < 10 {
			t.Errorf("the bytes made %v %d times alone", e, seen[e])
		}
	}
}

// dice: numbers that look like chance, the same each time.
type dice uint64

func (d *dice) below(n int) int {
	*d = *d*6364136223846793005 + 1442695040888963407
	return int(uint64(*d>>33) % uint64(n))
}

// number: one of any length, seldom 0.
func (d *dice) number() uint64 {
	return []uint64{0, 1, 127, 128, 300, 1 << 32, 1 << 63, math.MaxUint64, uint64(d.below(1 << 20)), uint64(d.below(200)) << 50}[d.below(10)]
}

func (d *dice) text(most int) string {
	b := make([]byte, d.below(most+1))
	for i := range b {
		b[i] = byte(d.below(256))
	}
	return string(b)
}

// edit: one that may be, mostly.
func (d *dice) edit() edit.Edit {
	e := edit.Edit{Log: d.number(), Next: d.number(), Seq: d.number()}
	for range d.below(8) {
		least, most := d.text([]int{3, 130, 200}[d.below(3)]), d.text([]int{3, 130, 200}[d.below(3)])
		if d.below(9) > 0 {
			least, most = min(least, most), max(least, most)
		}
		if d.below(9) > 0 {
			least, most = "\x00"+least[:min(len(least), 199)], "\x00"+most[:min(len(most), 199)]
		}
		number := d.number()
		if d.below(9) > 0 {
			number |= 1
		}
		f := edit.File{Number: number, Size: d.number(), Count: d.number(), Least: least, Most: most}
		e.Come = append(e.Come, edit.At{Level: d.below(4), File: f})
	}
	for range d.below(8) {
		e.Go = append(e.Go, edit.Gone{Level: d.below(4), Number: d.number()})
	}
	return e
}

// laid: an edit's bytes told once more, whether it may be or not.
func laid(e edit.Edit) string {
	var b []byte
	nums := func(l ...uint64) {
		for _, n := range l {
			b = binary.AppendUvarint(b, n)
		}
	}
	nums(e.Log, e.Next, e.Seq, uint64(len(e.Come)))
	for _, a := range e.Come {
		nums(uint64(a.Level), a.File.Number, a.File.Size, a.File.Count)
		for _, s := range []string{a.File.Least, a.File.Most} {
			nums(uint64(len(s)))
			b = append(b, s...)
		}
	}
	nums(uint64(len(e.Go)))
	for _, g := range e.Go {
		nums(uint64(g.Level), g.Number)
	}
	return string(b)
}

// TestThereAndBack: P12.3, by dice; and bytes of which one is another one, or lacks.
func TestThereAndBack(t *testing.T) {
	d := dice(2)
	written := 0
	for range 4000 {
		e := d.edit()
		all := laid(e)
		want(t, "as the model", asModel(t, all), e.Check())
		s, err := e.Bytes()
		want(t, "Bytes", err, e.Check())
		if err == api.OK {
			written++
			same(t, "Bytes", s, all)
			back, err := edit.Parse(s)
			want(t, "read as it was", err == api.OK && edit.Same(back, e) && equal(back, e), true)
		}
		for range 8 {
			at := d.below(len(all))
			asModel(t, all[:at]+string([]byte{byte(d.below(256))})+all[at+1:])
			asModel(t, all[:at]+all[at+1:])
			asModel(t, all[:at])
		}
		if t.Failed() {
			return
		}
	}
	if written < 1000 {
		t.Errorf("%d edits alone were written", written)
	}
}
