package disk_test

import (
	"math"
	"slices"
	"testing"

	"bourse/api"
)

// TestFates: P2.3, one file with 2 bytes that last and 4 loose ones.
func TestFates(t *testing.T) {
	for _, c := range []struct {
		what string
		fate api.Fate
		want string
	}{
		{"none kept", api.Fate{}, "AB"},
		{"none kept, turned", api.Fate{At: 0, Turn: 0xff}, "AB"},
		{"below 0", api.Fate{Keep: -1, Turn: 0xff}, "AB"},
		{"least", api.Fate{Keep: math.MinInt, At: math.MinInt, Turn: 0xff}, "AB"},
		{"below 0, turned ahead", api.Fate{Keep: -1, At: -1, Turn: 0xff}, "AB"},
		{"one", api.Fate{Keep: 1}, "ABc"},
		{"one, turned", api.Fate{Keep: 1, At: 0, Turn: 0x20}, "ABC"},
		{"one, turned behind", api.Fate{Keep: 1, At: 1, Turn: 0x20}, "ABc"},
		{"one, turned in what lasted", api.Fate{Keep: 1, At: -1, Turn: 0x20}, "ABc"},
		{"three", api.Fate{Keep: 3}, "ABcde"},
		{"three, the last one turned", api.Fate{Keep: 3, At: 2, Turn: 0x20}, "ABcdE"},
		{"three, the fourth one turned", api.Fate{Keep: 3, At: 3, Turn: 0x20}, "ABcde"},
		{"all", api.Fate{Keep: 4}, "ABcdef"},
		{"all, all bits of the last one turned", api.Fate{Keep: 4, At: 3, Turn: 0xff}, "ABcde\x99"},
		{"all, no bit turned", api.Fate{Keep: 4, At: 1}, "ABcdef"},
		{"above", api.Fate{Keep: 5, At: 4, Turn: 0x20}, "ABcdef"},
		{"above, turned", api.Fate{Keep: 5, At: 3, Turn: 0x20}, "ABcdeF"},
		{"greatest", api.Fate{Keep: math.MaxInt, At: math.MaxInt, Turn: 0x20}, "ABcdef"},
	} {
		t.Run(c.what, func(t *testing.T) {
			d := fresh(t, 100)
			done(t, d.Create("a"), d.Append("a", "AB"), d.Sync("a"), d.Append("a", "cdef"))
			d.Crash([]api.Fate{c.fate})
			holds(t, d, "a", c.want, 0)
			want(t, "used", d.Used(), len(c.want))
			d.Crash(nil)
			holds(t, d, "a", c.want, 0)
			done(t, d.Append("a", "x"))
			holds(t, d, "a", c.want+"x", 1)
		})
	}
}

// TestFatesInTurn: P2.3, rising by names, of files with loose bytes alone.
func TestFatesInTurn(t *testing.T) {
	d := fresh(t, 100)
	for _, name := range []string{"d", "b", "e", "a", "c", "10", "9"} {
		done(t, d.Create(name))
	}
	for _, name := range []string{"e", "d", "a", "b", "9"} {
		done(t, d.Append(name, "123"))
	}
	done(t, d.Sync("b"), d.Append("b", "45"), d.Append("b", ""), d.Sync("9"))
	fates := []api.Fate{{Keep: 1}, {Keep: 2, At: 1, Turn: 1}, {Keep: -5}}
	kept := slices.Clone(fates)
	d.Crash(fates)
	holds(t, d, "10", "", 0)
	holds(t, d, "9", "123", 0)
	holds(t, d, "a", "1", 0)
	holds(t, d, "b", "12344", 0)
	holds(t, d, "c", "", 0)
	holds(t, d, "d", "", 0)
	holds(t, d, "e", "", 0) // has no fate: none are kept
	listed(t, d, "10", "9", "a", "b", "c", "d", "e")
	if !slices.Equal(fates, kept) {
		t.Errorf("the fates were changed: %v", fates)
	}
}

// TestFewerFates: P2.3, files without a fate lose what is loose.
func TestFewerFates(t *testing.T) {
	for n := range 5 {
		d := fresh(t, 100)
		names := []string{"a", "b", "c"}
		for _, name := range names {
			done(t, d.Create(name), d.Append(name, "12"))
		}
		fates := make([]api.Fate, n)
		for i := range fates {
			fates[i].Keep = 2
		}
		d.Crash(fates)
		for i, name := range names {
			data := ""
			if i < n {
				data = "12"
			}
			holds(t, d, name, data, 0)
		}
	}
}

// TestCrashExample: the chapter's.
func TestCrashExample(t *testing.T) {
	d := fresh(t, 100)
	done(t, d.Create("a"), d.Append("a", "hi"))
	d.Crash(nil)
	holds(t, d, "a", "", 0)
}

// TestPowerComesAgain: P2.3, with neither a fuse nor a fault.
func TestPowerComesAgain(t *testing.T) {
	d := fresh(t, 100)
	done(t, d.Create("a"))
	d.Fuse(0)
	want(t, "not yet", d.Down(), false)
	want(t, "goes", d.Sync("a"), api.ErrPower)
	want(t, "gone", d.Down(), true)
	d.Fuse(-1)
	want(t, "gone without a fuse", d.Down(), true)
	want(t, "still gone", d.Sync("a"), api.ErrPower)
	d.Fault(0)
	d.Crash(nil)
	want(t, "there", d.Down(), false)
	done(t, d.Sync("a"), d.Append("a", "x"), d.Sync("a"))
	d.Fuse(1)
	d.Fault(1)
	d.Crash(nil)
	done(t, d.Sync("a"), d.Sync("a"), d.Sync("a"))
}

// TestNamesLast: P2.2, Create, Rename, Delete last at once.
func TestNamesLast(t *testing.T) {
	d := fresh(t, 100)
	done(t, d.Create("a"), d.Create("b"), d.Create("c"), d.Append("c", "x"), d.Sync("c"))
	done(t, d.Rename("c", "d"), d.Delete("b"))
	d.Crash(nil)
	listed(t, d, "a", "d")
	holds(t, d, "d", "x", 0)
}

// TestWhatLasted: P2.4, behind each of many crashes, whatever the fates.
func TestWhatLasted(t *testing.T) {
	d := fresh(t, 10000)
	done(t, d.Create("a"), d.Create("b"))
	lasting := map[string]string{}
	n := uint32(5)
	chance := func(below int) int {
		n = n*1664525 + 1013904223
		return int(n>>16) % below
	}
	for range 300 {
		name := []string{"a", "b"}[chance(2)]
		done(t, d.Append(name, "some bytes"[:chance(10)]))
		if chance(2) == 0 {
			done(t, d.Sync(name))
			lasting[name], _ = d.Read(name)
		}
		d.Fuse(chance(2))
		d.Append("a", "loose")
		d.Crash([]api.Fate{
			{Keep: chance(20) - 5, At: chance(30) - 15, Turn: byte(chance(256))},
			{Keep: chance(20) - 5, At: chance(30) - 15, Turn: byte(chance(256))},
		})
		for _, name := range []string{"a", "b"} {
			s, e := d.Read(name)
			want(t, "error", e, api.OK)
			if len(s) < len(lasting[name]) || s[:len(lasting[name])] != lasting[name] {
				t.Fatalf("%s: %q, wanted %q and more", name, s, lasting[name])
			}
			lasting[name] = s // a crash makes what it keeps last
		}
	}
}
