package wal_test

import (
	"encoding/binary"
	"hash/crc32"
	"math/bits"
	"slices"
	"strings"
	"testing"

	"bourse/api"
	"bourse/batch"
	"bourse/disk"
	"bourse/frame"
	"bourse/wal"
)

// want: a test fails, if something is another thing than was wanted.
func want[T comparable](t *testing.T, what string, got, wanted T) {
	t.Helper()
	if got != wanted {
		t.Errorf("%s: %v, wanted %v", what, got, wanted)
	}
}

// list: as want, of lists.
func list[T comparable](t *testing.T, what string, got []T, wanted ...T) {
	t.Helper()
	if !slices.Equal(got, wanted) {
		t.Errorf("%s: %v, wanted %v", what, got, wanted)
	}
}

// bytes: as want, of bytes.
func bytes(t *testing.T, what, got, wanted string) {
	t.Helper()
	if got != wanted {
		t.Errorf("%s: %d bytes %x, wanted %d bytes %x", what, len(got), got, len(wanted), wanted)
	}
}

// batches: as want, of batches.
func batches(t *testing.T, what string, got []batch.Batch, wanted ...batch.Batch) {
	t.Helper()
	if !slices.EqualFunc(got, wanted, batch.Same) {
		t.Errorf("%s: %v, wanted %v", what, got, wanted)
	}
}

func x(n int) string { return strings.Repeat("x", n) }

func put(key, value string) api.Change {
	return api.Change{Kind: api.Put, Key: key, Value: value}
}

func del(key string) api.Change { return api.Change{Kind: api.Delete, Key: key} }

func of(seq uint64, l ...api.Change) batch.Batch { return batch.Batch{Seq: seq, Changes: l} }

// refusals: batches that are refused behind the number 5.
func refusals() []struct {
	what string
	b    batch.Batch
	want api.Errno
} {
	return []struct {
		what string
		b    batch.Batch
		want api.Errno
	}{
		{"a number below", of(4, put("a", "")), api.ErrOrder},
		{"the number 0", of(0), api.ErrOrder},
		{"a number below, and a kind that isn't", of(4, api.Change{Kind: 3, Key: "a"}), api.ErrOrder},
		{"2001 changes", of(5, slices.Repeat([]api.Change{del("a")}, 2001)...), api.ErrMany},
		{"the kind 0", of(5, api.Change{Key: "a"}), api.ErrKind},
		{"no key", of(5, put("", "v")), api.ErrKey},
		{"a key of 201", of(5, put("a", ""), del(x(201))), api.ErrKey},
		{"a value of 4097", of(5, put("a", x(4097))), api.ErrLong},
		{"a value of a Delete", of(5, api.Change{Kind: api.Delete, Key: "a", Value: "v"}), api.ErrLong},
		{"a number too great", of(batch.Top + 1), api.ErrRange},
		{"a last number too great", of(batch.Top, put("a", ""), put("b", "")), api.ErrRange},
		{"a key ahead of the number", of(batch.Top+1, put("", "")), api.ErrKey},
	}
}

// fresh: an empty disk.
func fresh(t *testing.T) *disk.Disk {
	t.Helper()
	d, e := disk.New(1 << 22)
	want(t, "New", e, api.OK)
	return d
}

// done: none had an error.
func done(t *testing.T, l ...api.Errno) {
	t.Helper()
	for i, e := range l {
		if e != api.OK {
			t.Fatalf("the call of place %d: %v", i, e)
		}
	}
}

// made: a log that was created.
func made(t *testing.T, d *disk.Disk, number uint64) *wal.Log {
	t.Helper()
	l, e := wal.Create(d, number)
	if e != api.OK || l == nil {
		t.Fatalf("Create: %v", e)
	}
	return l
}

// holds: a file's bytes, all of which last.
func holds(t *testing.T, d *disk.Disk, name, wanted string) {
	t.Helper()
	s, e := d.Read(name)
	want(t, name, e, api.OK)
	bytes(t, name, s, wanted)
	want(t, name+": loose", d.Loose(name), 0)
}

// tells: Load of a log, as wanted; Read of its bytes too, twice.
func tells(t *testing.T, what string, d *disk.Disk, number uint64, wanted ...batch.Batch) {
	t.Helper()
	l, e := wal.Load(d, number)
	want(t, what+": Load", e, api.OK)
	batches(t, what+": Load", l, wanted...)
	s, e := d.Read(name(number))
	want(t, what+": the file", e, api.OK)
	read(t, what, s, wanted...)
}

// read: Read of bytes, as wanted, twice.
func read(t *testing.T, what, s string, wanted ...batch.Batch) {
	t.Helper()
	r := wal.Read(s)
	for range 2 {
		batches(t, what+": Read", slices.Collect(r), wanted...)
	}
}

// full: a record of one piece, its sum by the library.
func full(s string) string {
	sum := crc32.Checksum([]byte("\x01"+s), crc32.MakeTable(crc32.Castagnoli))
	b := binary.LittleEndian.AppendUint32(nil, bits.RotateLeft32(sum, 17)+0xa282ead8)
	return string(append(binary.LittleEndian.AppendUint16(b, uint16(len(s))), 1)) + s
}

// laid: records, one behind the other.
func laid(records ...string) string {
	s := ""
	for _, r := range records {
		s += frame.Lay(len(s), r)
	}
	return s
}

// record: a batch's bytes.
func record(t *testing.T, b batch.Batch) string {
	t.Helper()
	s, e := b.Bytes()
	want(t, "Bytes", e, api.OK)
	return s
}

// log: batches' bytes, one behind the other.
func log(t *testing.T, l ...batch.Batch) string {
	t.Helper()
	var records []string
	for _, b := range l {
		records = append(records, record(t, b))
	}
	return laid(records...)
}

// dice: numbers that look like chance, the same each time.
type dice uint64

func (d *dice) below(n int) int {
	*d = *d*6364136223846793005 + 1442695040888963407
	return int(uint64(*d>>33) % uint64(n))
}

// changes: some, mostly short.
func (d *dice) changes() []api.Change {
	var l []api.Change
	for range d.below(4) {
		if d.below(3) == 0 {
			l = append(l, del(x(1+d.below(5))))
			continue
		}
		l = append(l, put(x(1+d.below(30)), x(d.below(10)*d.below(10)*d.below(10))))
	}
	return l
}
