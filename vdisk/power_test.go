package vdisk

import (
	"math"
	"strings"
	"testing"

	"rankloft/api"
)

// threeFiles answers a disk of 8 effects, with a file that is synced whole, one
// in part, one not at all, and one without bytes.
func threeFiles(t *testing.T) *Disk {
	t.Helper()
	d := made(t, 100)
	syncedPut(t, d, "whole", "abcd")
	syncedPut(t, d, "part", "efg")
	put(t, d, "part", "hi")
	put(t, d, "part", "jkl")
	put(t, d, "none", "mno")
	put(t, d, "empty", "")
	return d
}

// lasting is what stands on that disk behind a failure of so many kept bytes.
func lasting(keep int) []string {
	cut := func(s string) string { return s[:min(len(s), max(keep, 0))] }
	return []string{"empty", "", "none", cut("mno"), "part", "efg" + cut("hijkl"), "whole", "abcd"}
}

func keeps() []int {
	return []int{math.MinInt, -mostQuota, -3, -1, 0, 1, 2, 3, 4, 5, 6, 99, mostQuota, 1 << 32, math.MaxInt}
}

func TestCrash(t *testing.T) {
	for _, keep := range keeps() {
		d := threeFiles(t)
		d.Crash(keep)
		off(t, d, true)
		done(t, d, 8)
		d.Start()
		has(t, d, lasting(keep)...)
		// All that lasts is synced: nothing more goes.
		for _, more := range []int{0, -1, 1, 99} {
			failed(d, more)
			has(t, d, lasting(keep)...)
		}
		put(t, d, "none", "XY")
		failed(d, 1)
		want := lasting(keep)
		want[3] += "X"
		has(t, d, want...)
		done(t, d, 9)
	}
}

// A disk that is off stays as it is, and armed as it is.
func TestCrashWhileOff(t *testing.T) {
	for _, keep := range keeps() {
		d := threeFiles(t)
		d.Crash(2)
		d.Crash(keep)
		off(t, d, true)
		d.Arm(api.Cut{At: 1, Keep: 1})
		d.Crash(keep)
		d.Start()
		has(t, d, lasting(2)...)
		errno(t, "still armed", d.Append("none", "XYZ"), api.ErrDown)
		d.Start()
		want := lasting(2)
		want[3] += "X"
		has(t, d, want...)
	}
}

func TestCrashOfNothing(t *testing.T) {
	for _, keep := range keeps() {
		d := made(t, 1)
		failed(d, keep)
		has(t, d)
		done(t, d, 0)
		put(t, d, "a", "x")
		has(t, d, "a", "x")
	}
}

// What was synced before the last bytes came lasts, and no other.
func TestSync(t *testing.T) {
	d := made(t, 100)
	put(t, d, "a", "12")
	put(t, d, "b", "34")
	errno(t, "sync", d.Sync("a"), api.OK)
	put(t, d, "a", "56")
	errno(t, "sync", d.Sync("a"), api.OK)
	errno(t, "sync again", d.Sync("a"), api.OK)
	put(t, d, "a", "78")
	put(t, d, "c", "")
	errno(t, "sync of no bytes", d.Sync("c"), api.OK)
	has(t, d, "a", "125678", "b", "34", "c", "")
	failed(d, 0)
	has(t, d, "a", "1256", "b", "", "c", "")
}

func TestOff(t *testing.T) {
	d := threeFiles(t)
	d.Crash(1)
	all := append(noNames(), "whole", "part", "none", "empty", "new", strings.Repeat("n", mostName))
	for _, name := range all {
		for _, s := range []string{"", "x", strings.Repeat("x", 200)} {
			errno(t, "append", d.Append(name, s), api.ErrDown)
		}
		errno(t, "sync", d.Sync(name), api.ErrDown)
		errno(t, "remove", d.Remove(name), api.ErrDown)
		if s, e := d.Read(name); s != "" || e != api.ErrDown {
			t.Fatal(name, s, e)
		}
		for _, to := range all {
			errno(t, "rename", d.Rename(name, to), api.ErrDown)
		}
	}
	off(t, d, true)
	if l := d.List(); strings.Join(l, " ") != "empty none part whole" || d.Used() != 9 {
		t.Fatal(l, d.Used())
	}
	done(t, d, 8)
	errno(t, "flip", d.Flip("whole", 0), api.OK)
	errno(t, "flip of no file", d.Flip("new", 0), api.ErrNone)
	errno(t, "flip of no bit", d.Flip("whole", 32), api.ErrRange)
	d.Start()
	has(t, d, "empty", "", "none", "m", "part", "efgh", "whole", "`bcd")
	done(t, d, 8)
}

func TestStart(t *testing.T) {
	d := made(t, 10)
	d.Start()
	has(t, d)
	put(t, d, "a", "12")
	d.Start()
	has(t, d, "a", "12")
	// On a disk that is on it syncs nothing, and takes back nothing that is armed.
	d.Arm(api.Cut{At: 2, Keep: 1})
	d.Start()
	put(t, d, "b", "34")
	d.Start()
	errno(t, "the cut", d.Sync("a"), api.ErrDown)
	off(t, d, true)
	d.Start()
	has(t, d, "a", "1", "b", "3")
	d.Start()
	d.Start()
	put(t, d, "a", "x")
	has(t, d, "a", "1x", "b", "3")
	done(t, d, 3)
}

// effects are one of each, of a disk of threeFiles.
func effects() map[string]func(d *Disk) api.Errno {
	return map[string]func(d *Disk) api.Errno{
		"append":         func(d *Disk) api.Errno { return d.Append("part", "XYZ") },
		"append new":     func(d *Disk) api.Errno { return d.Append("new", "XYZ") },
		"append nothing": func(d *Disk) api.Errno { return d.Append("none", "") },
		"sync":           func(d *Disk) api.Errno { return d.Sync("part") },
		"rename":         func(d *Disk) api.Errno { return d.Rename("none", "other") },
		"rename over":    func(d *Disk) api.Errno { return d.Rename("none", "whole") },
		"remove":         func(d *Disk) api.Errno { return d.Remove("whole") },
	}
}

// behindCut is what stands behind a failure ahead of an effect: all as if it had
// not been, but that an Append's bytes are in the tail.
func behindCut(name string, keep int) []string {
	cut := func(s string) string { return s[:min(len(s), max(keep, 0))] }
	want := lasting(keep)
	switch name {
	case "append":
		want[5] = "efg" + cut("hijklXYZ")
	case "append new":
		want = append(want[:2:2], append([]string{"new", cut("XYZ")}, want[2:]...)...)
	}
	return want
}

func TestCutOfEach(t *testing.T) {
	for name, effect := range effects() {
		for _, keep := range append(keeps(), 7, 8, 9) {
			d := threeFiles(t)
			d.Arm(api.Cut{At: 1, Keep: keep})
			errno(t, name, effect(d), api.ErrDown)
			off(t, d, true)
			done(t, d, 8)
			errno(t, name+" while off", effect(d), api.ErrDown)
			d.Start()
			has(t, d, behindCut(name, keep)...)
			// All that lasts is synced, and nothing is armed.
			failed(d, 0)
			has(t, d, behindCut(name, keep)...)
			errno(t, name+" then", effect(d), api.OK)
			off(t, d, false)
			done(t, d, 9)
		}
	}
}

// A new file whose bytes come as the power fails is there, whatever lasts of it.
func TestCutOfNewFile(t *testing.T) {
	for _, x := range []struct {
		keep    int
		s, want string
	}{{0, "abc", ""}, {-1, "abc", ""}, {2, "abc", "ab"}, {3, "abc", "abc"}, {99, "abc", "abc"}, {0, "", ""}, {5, "", ""}} {
		d := made(t, 3)
		d.Arm(api.Cut{At: 1, Keep: x.keep})
		errno(t, "the cut", d.Append("a", x.s), api.ErrDown)
		done(t, d, 0)
		d.Start()
		has(t, d, "a", x.want)
	}
}

// The effect of the number At is the one that isn't done, and none ahead of it.
func TestArmAt(t *testing.T) {
	for at := 1; at < 20; at++ {
		d := made(t, 100)
		put(t, d, "a", "0")
		d.Arm(api.Cut{At: at, Keep: 1000})
		for i := 1; i < at; i++ {
			put(t, d, "a", "x")
		}
		off(t, d, false)
		done(t, d, at)
		errno(t, "the cut", d.Sync("a"), api.ErrDown)
		off(t, d, true)
		done(t, d, at)
		d.Start()
		for range 30 {
			put(t, d, "a", "y")
		}
		has(t, d, "a", "0"+strings.Repeat("x", at-1)+strings.Repeat("y", 30))
	}
}

// Each kind of effect counts towards At, and what has an error, reads and flips
// don't.
func TestWhatCounts(t *testing.T) {
	d := made(t, 10)
	d.Arm(api.Cut{At: 6, Keep: 2})
	errs := func() {
		errno(t, "append, no name", d.Append("", "x"), api.ErrForm)
		errno(t, "append, no room", d.Append("x", "12345678901"), api.ErrFull)
		errno(t, "sync", d.Sync("x"), api.ErrNone)
		errno(t, "rename", d.Rename("x", "y"), api.ErrNone)
		errno(t, "remove", d.Remove("x"), api.ErrNone)
		_, e := d.Read("x")
		errno(t, "read", e, api.ErrNone)
		d.Flip("a", 0)
		d.List()
		d.Start()
		off(t, d, false)
	}
	for _, effect := range []func() api.Errno{
		func() api.Errno { return d.Append("a", "abcd") },
		func() api.Errno { return d.Append("a", "") },
		func() api.Errno { return d.Sync("a") },
		func() api.Errno { return d.Rename("a", "b") },
		func() api.Errno { return d.Remove("b") },
	} {
		errs()
		errno(t, "an effect", effect(), api.OK)
	}
	errs()
	errno(t, "the cut", d.Append("c", "pqrs"), api.ErrDown)
	done(t, d, 5)
	d.Start()
	has(t, d, "c", "pq")
}

// An At below 1 arms with nothing, and takes back what was armed.
func TestArmWithNothing(t *testing.T) {
	for _, at := range []int{0, -1, -2, -mostQuota, math.MinInt} {
		for _, before := range []int{0, 1, 2, 3} {
			d := made(t, 100)
			d.Arm(api.Cut{At: before, Keep: 1})
			d.Arm(api.Cut{At: at, Keep: 1})
			for range 50 {
				put(t, d, "a", "x")
			}
			has(t, d, "a", strings.Repeat("x", 50))
			// Nor does its Keep play a part.
			failed(d, 0)
			has(t, d, "a", "")
		}
	}
}

// A second Arm counts anew, and has its own Keep.
func TestArmAgain(t *testing.T) {
	for _, x := range []struct{ first, then, second int }{{1, 0, 1}, {1, 0, 3}, {3, 2, 3}, {3, 2, 1}, {9, 4, 2}, {2, 1, 9}, {math.MaxInt, 5, 1}} {
		d := made(t, 100)
		d.Arm(api.Cut{At: x.first, Keep: 99})
		for range x.then {
			put(t, d, "a", "x")
		}
		d.Arm(api.Cut{At: x.second, Keep: 1})
		for range x.second - 1 {
			put(t, d, "b", "y")
		}
		errno(t, "the cut", d.Append("c", "zzz"), api.ErrDown)
		done(t, d, x.then+x.second-1)
		d.Start()
		if s, e := d.Read("c"); s != "z" || e != api.OK {
			t.Fatal(x, s, e)
		}
	}
	d := made(t, 100)
	d.Arm(api.Cut{At: math.MaxInt, Keep: math.MaxInt})
	for range 50 {
		put(t, d, "a", "x")
	}
	has(t, d, "a", strings.Repeat("x", 50))
}

func TestArmWhileOff(t *testing.T) {
	for at := 1; at < 5; at++ {
		d := made(t, 100)
		put(t, d, "a", "123")
		d.Crash(1)
		d.Arm(api.Cut{At: at, Keep: 1})
		off(t, d, true)
		// Calls of a disk that is off count for nothing.
		for range 5 {
			errno(t, "off", d.Append("a", "x"), api.ErrDown)
		}
		d.Start()
		for range at - 1 {
			put(t, d, "a", "y")
		}
		errno(t, "the cut", d.Append("b", "zz"), api.ErrDown)
		off(t, d, true)
		d.Start()
		has(t, d, "a", "1"+"y"[:min(1, at-1)], "b", "z")
		put(t, d, "b", "more")
		// And while off it is taken back.
		d.Crash(0)
		d.Arm(api.Cut{At: 1})
		d.Arm(api.Cut{})
		d.Start()
		put(t, d, "b", "more")
	}
}

// Behind a failure, by what was armed or by a Crash, nothing is armed.
func TestNothingArmedBehind(t *testing.T) {
	for _, at := range []int{1, 2, 5} {
		d := made(t, 100)
		d.Arm(api.Cut{At: at, Keep: 9})
		failed(d, 0)
		for range 10 {
			put(t, d, "a", "x")
		}
		d.Arm(api.Cut{At: 1, Keep: 9})
		errno(t, "the cut", d.Sync("a"), api.ErrDown)
		d.Start()
		for range 10 {
			put(t, d, "a", "x")
		}
		has(t, d, "a", strings.Repeat("x", 19))
	}
}

func TestFlip(t *testing.T) {
	d := made(t, 100)
	syncedPut(t, d, "a", "\x00\x00")
	put(t, d, "a", "\xff")
	want := []byte("\x00\x00\xff")
	for bit := range 24 {
		errno(t, "flip", d.Flip("a", bit), api.OK)
		want[bit/8] ^= []byte{1, 2, 4, 8, 16, 32, 64, 128}[bit%8]
		has(t, d, "a", string(want))
	}
	has(t, d, "a", "\xff\xff\x00")
	for _, bit := range []int{0, 7, 8, 23} {
		errno(t, "flip", d.Flip("a", bit), api.OK)
		errno(t, "flip back", d.Flip("a", bit), api.OK)
		has(t, d, "a", "\xff\xff\x00")
	}
	for _, bit := range []int{24, 25, 32, -1, -8, -24, math.MinInt, math.MaxInt, 1 << 32, 1<<32 + 1, 1 << 61, -1 << 61} {
		errno(t, "no such bit", d.Flip("a", bit), api.ErrRange)
	}
	has(t, d, "a", "\xff\xff\x00")
	done(t, d, 3)
	put(t, d, "empty", "")
	for _, bit := range []int{0, 1, -1, 7, 8} {
		errno(t, "of no bytes", d.Flip("empty", bit), api.ErrRange)
		errno(t, "of no file", d.Flip("b", bit), api.ErrNone)
		errno(t, "of no name", d.Flip("", bit), api.ErrNone)
	}
	has(t, d, "a", "\xff\xff\x00", "empty", "")
	done(t, d, 4)
}

// A turned bit lasts as its byte does, and counts for nothing that is armed.
func TestFlipLasts(t *testing.T) {
	d := made(t, 100)
	syncedPut(t, d, "a", "ab")
	put(t, d, "a", "cd")
	put(t, d, "b", "cd")
	d.Arm(api.Cut{At: 2, Keep: 1})
	for _, bit := range []int{8, 16, 24} {
		errno(t, "flip", d.Flip("a", bit), api.OK)
	}
	has(t, d, "a", "acbe", "b", "cd")
	put(t, d, "b", "")
	errno(t, "the cut", d.Sync("b"), api.ErrDown)
	errno(t, "while off", d.Flip("a", 0), api.OK)
	errno(t, "while off, of what is gone", d.Flip("a", 24), api.ErrRange)
	errno(t, "while off, of no file", d.Flip("c", 0), api.ErrNone)
	d.Start()
	has(t, d, "a", "`cb", "b", "c")
	done(t, d, 5)
}
