package manifest_test

import (
	"fmt"
	"testing"

	"bourse/api"
	"bourse/disk"
	"bourse/edit"
	"bourse/frame"
	"bourse/manifest"
)

// TestLoadDisk: P14.4, the disk's error of Read of current.
func TestLoadDisk(t *testing.T) {
	unloaded(t, "no disk", nil, api.ErrNil)
	d := fresh(t)
	unloaded(t, "an empty disk", d, api.ErrNone)
	put(t, d, "m-1", log(t, edit.Edit{}))
	put(t, d, "current.new", "m-1"+sum("m-1"))
	unloaded(t, "a manifest that doesn't count", d, api.ErrNone)
	made(t, d, 1, some())
	loaded(t, "one that counts", d, "m-1", some())
	d.Fuse(0)
	want(t, "the power goes", d.Sync("m-1"), api.ErrPower)
	unloaded(t, "no power", d, api.ErrPower)
	d.Crash(nil)
	loaded(t, "the power is there again", d, "m-1", some())
	d.Fault(0)
	loaded(t, "a fault is ahead of steps alone", d, "m-1", some())
	unloaded(t, "an empty disk without power", func() *disk.Disk {
		d := fresh(t)
		d.Fuse(0)
		_ = d.Create("a")
		return d
	}(), api.ErrPower)
}

// TestCurrent: P14.4, current isn't as told.
func TestCurrent(t *testing.T) {
	good := "m-12" + sum("m-12")
	d := fresh(t)
	for _, name := range []string{"m-1", "m-12", "m-012", "m-", "12", "t-12", "m-12.", "m", "m-18446744073709551616", "current.new", "m--1"} {
		put(t, d, name, log(t, some().Edit()))
	}
	put(t, d, "current", good)
	loaded(t, "as told", d, "m-12", some())
	for n := range len(good) {
		put(t, d, "current", good[:n])
		unloaded(t, fmt.Sprint("cut behind ", n), d, api.ErrBroken)
		put(t, d, "current", good[len(good)-n:])
		unloaded(t, fmt.Sprint("its last ", n), d, api.ErrBroken)
		for bit := range 8 {
			b := []byte(good)
			b[n] ^= 1 << bit
			put(t, d, "current", string(b))
			unloaded(t, fmt.Sprintf("the bit %d of the byte %d turned", bit, n), d, api.ErrBroken)
		}
	}
	for _, s := range []string{good + "\x00", good + good, "\x00" + good, good + "\n", "m-12\n" + sum("m-12"), "\x04" + good, "m-12" + sum("m-1"), "m-12" + sum(""), "m-12", "\x00\x00\x00\x00"} {
		put(t, d, "current", s)
		unloaded(t, fmt.Sprintf("%q", s), d, api.ErrBroken)
	}
	for _, name := range []string{"", "m-012", "m-", "12", "t-12", "m-12.", "m", "m-18446744073709551616", "current", "current.new", "m--1", "M-12", "m-12\x00"} {
		put(t, d, "current", name+sum(name))
		unloaded(t, fmt.Sprintf("it tells %q, which is no manifest's name", name), d, api.ErrBroken)
	}
	put(t, d, "current", "m-1"+sum("m-1"))
	loaded(t, "another one", d, "m-1", some())
	put(t, d, "current", "m-13"+sum("m-13"))
	unloaded(t, "there is no such manifest", d, api.ErrBroken)
	put(t, d, "current", "m-99999999999999999999999999999999"+sum("m-99999999999999999999999999999999"))
	unloaded(t, "no file can have its name", d, api.ErrBroken)
}

// record: bytes as a log's only record, or one behind others.
func record(ahead string, l ...string) string {
	for _, s := range l {
		ahead += frame.Lay(len(ahead), s)
	}
	return ahead
}

// TestLog: P14.4, logs by their records.
func TestLog(t *testing.T) {
	first := log(t, some().Edit())
	second := log(t, some().Edit(), edit.Edit{Log: 6})
	after := then(t, some(), edit.Edit{Log: 6})
	d := fresh(t)
	put(t, d, "current", "m-1"+sum("m-1"))
	tells := func(what, s string, wanted manifest.State) {
		t.Helper()
		put(t, d, "m-1", s)
		loaded(t, what, d, "m-1", wanted)
	}
	refused := func(what, s string) {
		t.Helper()
		put(t, d, "m-1", s)
		unloaded(t, what, d, api.ErrBroken)
	}
	tells("one record", first, some())
	tells("two records", second, after)
	for n := range len(second) {
		if n < len(first) {
			refused(fmt.Sprint("cut behind ", n), second[:n])
		} else {
			tells(fmt.Sprint("cut behind ", n), second[:n], some())
		}
		b := []byte(second)
		b[n] ^= 4
		if n < len(first) {
			refused(fmt.Sprint("turned at ", n), string(b))
		} else {
			tells(fmt.Sprint("turned at ", n), string(b), some())
		}
	}
	refused("noughts", "\x00\x00\x00\x00\x00\x00\x00\x00")
	tells("noughts behind it", second+"\x00\x00\x00\x00\x00\x00\x00\x00", after)
	tells("a record that is no edit, behind one that isn't whole", record(second+"torn", "no edit"), after)
	tells("the empty edit", log(t, edit.Edit{}), manifest.State{})
	tells("a record that is there twice", record(second, "\x06\x00\x00\x00\x00"), after)
	tells("one that tells nothing goes ahead", log(t, edit.Edit{}, some().Edit()), some())

	for _, s := range []string{"", "\x00", "\x00\x00\x00\x00", "\x00\x00\x00\x00\x00\x00", "\x80\x00\x00\x00\x00\x00", "\x00\x00\x00\xc9\x01", "hello", "\x00\x00\x00\x00\x01\x04\x01", "\x00\x00\x00\x01\x00\x00\x05\x01\x01a\x01a\x00", "\x00\x00\x00\x01\x00\x01\x05\x01\x01b\x01a\x00"} {
		refused(fmt.Sprintf("%x, which is no edit", s), record("", s))
		refused(fmt.Sprintf("%x, which is no edit, as the second one", s), record(first, s))
		refused(fmt.Sprintf("%x, which is no edit, as the third one", s), record(second, s))
		refused(fmt.Sprintf("%x, which is no edit, ahead of others", s), record(first, s, "\x06\x00\x00\x00\x00"))
	}
	for _, c := range refusals() {
		bytes, err := c.e.Bytes()
		if err != api.OK {
			continue
		}
		refused(c.what, record(first, bytes))
		refused(c.what+", as the third one", record(second, bytes))
		refused(c.what+", ahead of others", record(first, bytes, "\x06\x00\x00\x00\x00"))
	}
	refused("one goes from none", log(t, edit.Edit{Go: gone(0, 1)}))
	refused("a wrong first one", log(t, manifest.State{Version: wrong()[1]}.Edit()))
	refused("the first one twice", log(t, some().Edit(), some().Edit()))
}

// TestLoadLoose: P14.4, what isn't synced yet is told, too; Load changes nothing.
func TestLoadLoose(t *testing.T) {
	d := fresh(t)
	done(t, d.Create("m-3"), d.Append("m-3", log(t, some().Edit())), d.Create("current"), d.Append("current", "m-3"+sum("m-3")))
	steps, files, a, b := d.Steps(), d.List(), d.Loose("m-3"), d.Loose("current")
	loaded(t, "loose", d, "m-3", some())
	loaded(t, "again", d, "m-3", some())
	want(t, "steps", d.Steps(), steps)
	list(t, "files", d.List(), files...)
	want(t, "loose ones", d.Loose("m-3") == a && d.Loose("current") == b, true)
}
