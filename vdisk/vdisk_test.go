package vdisk

import (
	"math"
	"slices"
	"strconv"
	"strings"
	"testing"

	"rankloft/api"
)

const (
	mostQuota = 1 << 20
	mostFiles = 64
	mostName  = 32
)

// made answers an empty disk.
func made(t *testing.T, quota int) *Disk {
	t.Helper()
	d, e := New(quota)
	if e != api.OK || d == nil {
		t.Fatal("New:", quota, e)
	}
	return d
}

// errno holds an error against what it should be.
func errno(t *testing.T, name string, e, want api.Errno) {
	t.Helper()
	if e != want {
		t.Fatalf("%s: error %d, want %d", name, e, want)
	}
}

// put appends bytes, which must go.
func put(t *testing.T, d *Disk, name, s string) {
	t.Helper()
	errno(t, "append to "+name, d.Append(name, s), api.OK)
}

// syncedPut appends bytes and syncs them, which must go.
func syncedPut(t *testing.T, d *Disk, name, s string) {
	t.Helper()
	put(t, d, name, s)
	errno(t, "sync "+name, d.Sync(name), api.OK)
}

// files is what stands on a disk: name, bytes, name, bytes, by rising names.
func files(t *testing.T, d *Disk) []string {
	t.Helper()
	var l []string
	for _, name := range d.List() {
		s, e := d.Read(name)
		errno(t, "read "+name, e, api.OK)
		l = append(l, name, s)
	}
	return l
}

// has holds what stands on a disk whose power is on against what should, and
// what is used with it.
func has(t *testing.T, d *Disk, want ...string) {
	t.Helper()
	if l := files(t, d); !slices.Equal(l, want) {
		t.Fatalf("%q, want %q", l, want)
	}
	used := 0
	for i := 1; i < len(want); i += 2 {
		used += len(want[i])
	}
	if d.Used() != used || d.Down() {
		t.Fatal("used", d.Used(), "want", used, "down", d.Down())
	}
}

// done holds how many effects were done against how many should.
func done(t *testing.T, d *Disk, want int) {
	t.Helper()
	if d.Effects() != want {
		t.Fatal("effects", d.Effects(), "want", want)
	}
}

// off holds whether the power is off against whether it should be.
func off(t *testing.T, d *Disk, want bool) {
	t.Helper()
	if d.Down() != want {
		t.Fatal("down", d.Down(), "want", want)
	}
}

// failed lets the power fail and come again.
func failed(d *Disk, keep int) {
	d.Crash(keep)
	d.Start()
}

func TestNew(t *testing.T) {
	for _, quota := range []int{0, -1, -2, -mostQuota, math.MinInt, mostQuota + 1, 2 * mostQuota, 1 << 32, 1<<32 + 1, math.MaxInt} {
		if d, e := New(quota); d != nil || e != api.ErrRange {
			t.Error(quota, d, e)
		}
	}
	for _, quota := range []int{1, 2, 10, mostQuota - 1, mostQuota} {
		d := made(t, quota)
		has(t, d)
		done(t, d, 0)
		errno(t, "beyond", d.Append("a", strings.Repeat("x", quota+1)), api.ErrFull)
		put(t, d, "a", strings.Repeat("x", quota))
		errno(t, "one more", d.Append("a", "x"), api.ErrFull)
		errno(t, "one more elsewhere", d.Append("b", "x"), api.ErrFull)
		has(t, d, "a", strings.Repeat("x", quota))
		done(t, d, 1)
	}
}

func TestDisksAlone(t *testing.T) {
	a, b := made(t, 10), made(t, 10)
	put(t, a, "f", "one")
	put(t, b, "f", "other")
	a.Arm(api.Cut{At: 1})
	put(t, b, "f", "!")
	b.Crash(9)
	off(t, a, false)
	has(t, a, "f", "one")
	done(t, a, 1)
	done(t, b, 2)
}

// names are right ones of all lengths that there are, and of any bytes.
func names() []string {
	l := []string{"\x00", "\xff", " ", "/", ".", "\n", "\xc3", "\xc3\xa4", "a\x00", "a\x00b", "man.new", strings.Repeat("\xff", mostName), strings.Repeat("\x00", mostName)}
	for n := 1; n <= mostName; n++ {
		l = append(l, strings.Repeat("n", n))
	}
	return l
}

// noNames are none.
func noNames() []string {
	return []string{"", strings.Repeat("n", mostName+1), strings.Repeat("\xc3\xa4", mostName), strings.Repeat("\x00", mostName+1), strings.Repeat("n", 100), strings.Repeat("n", 1<<16)}
}

func TestAppendNames(t *testing.T) {
	d := made(t, 1000)
	want := map[string]string{}
	for i, name := range names() {
		want[name] = strconv.Itoa(i)
		put(t, d, name, want[name])
	}
	for _, name := range noNames() {
		for _, s := range []string{"", "x"} {
			errno(t, "no name", d.Append(name, s), api.ErrForm)
		}
	}
	l := d.List()
	if len(l) != len(want) || !slices.IsSorted(l) {
		t.Fatalf("%q", l)
	}
	for _, name := range l {
		if s, e := d.Read(name); s != want[name] || e != api.OK {
			t.Fatalf("%q: %q, %d, want %q", name, s, e, want[name])
		}
	}
	done(t, d, len(want))
}

func TestAppend(t *testing.T) {
	d := made(t, 1000)
	var every strings.Builder
	for i := range 256 {
		every.WriteByte(byte(i))
	}
	put(t, d, "b", every.String())
	put(t, d, "a", "")
	has(t, d, "a", "", "b", every.String())
	put(t, d, "b", "")
	put(t, d, "b", "behind")
	put(t, d, "a", "")
	put(t, d, "a", "first")
	put(t, d, "a", " second")
	has(t, d, "a", "first second", "b", every.String()+"behind")
	done(t, d, 7)
}

func TestQuota(t *testing.T) {
	d := made(t, 10)
	put(t, d, "a", "123")
	put(t, d, "b", "456")
	errno(t, "beyond", d.Append("c", "78901"), api.ErrFull)
	errno(t, "beyond in one that there is", d.Append("a", "78901"), api.ErrFull)
	errno(t, "far beyond", d.Append("a", strings.Repeat("x", 2*mostQuota)), api.ErrFull)
	has(t, d, "a", "123", "b", "456")
	put(t, d, "c", "7890")
	errno(t, "one beyond", d.Append("c", "1"), api.ErrFull)
	errno(t, "one beyond in a new one", d.Append("d", "1"), api.ErrFull)
	put(t, d, "a", "")
	put(t, d, "d", "")
	has(t, d, "a", "123", "b", "456", "c", "7890", "d", "")
	done(t, d, 5)
	// What goes leaves room: of a file that is removed, of one that is replaced,
	// and of a tail.
	errno(t, "remove", d.Remove("a"), api.OK)
	errno(t, "four into three", d.Append("b", "abcd"), api.ErrFull)
	put(t, d, "b", "abc")
	errno(t, "rename", d.Rename("d", "c"), api.OK)
	errno(t, "five into four", d.Append("c", "abcde"), api.ErrFull)
	put(t, d, "c", "abcd")
	failed(d, 1)
	has(t, d, "b", "4", "c", "a")
	errno(t, "nine into eight", d.Append("c", "123456789"), api.ErrFull)
	put(t, d, "c", "12345678")
	has(t, d, "b", "4", "c", "a12345678")
}

// filled answers a disk of 64 files without bytes, f0 to f63.
func filled(t *testing.T, quota int) *Disk {
	t.Helper()
	d := made(t, quota)
	for i := range mostFiles {
		put(t, d, "f"+strconv.Itoa(i), "")
	}
	return d
}

func TestFiles(t *testing.T) {
	d := filled(t, 5)
	for _, s := range []string{"", "x", "123456"} {
		errno(t, "a 65th", d.Append("g", s), api.ErrFull)
	}
	if len(d.List()) != mostFiles || d.Used() != 0 {
		t.Fatal(d.List(), d.Used())
	}
	for i := range 5 {
		put(t, d, "f"+strconv.Itoa(i*15), "x")
	}
	put(t, d, "f63", "")
	errno(t, "beyond the quota", d.Append("f63", "x"), api.ErrFull)
	done(t, d, mostFiles+6)
	// A new name of a file that there is makes no more of them.
	errno(t, "rename", d.Rename("f0", "g"), api.OK)
	errno(t, "still a 65th", d.Append("f0", ""), api.ErrFull)
	errno(t, "remove", d.Remove("f1"), api.OK)
	put(t, d, "f0", "")
	errno(t, "again a 65th", d.Append("f1", ""), api.ErrFull)
	errno(t, "rename to one that there is", d.Rename("f2", "f3"), api.OK)
	put(t, d, "f1", "")
	errno(t, "once more a 65th", d.Append("f2", ""), api.ErrFull)
	// The power takes no file away, not even one of which nothing lasts.
	failed(d, 0)
	errno(t, "a 65th behind a failure", d.Append("f2", ""), api.ErrFull)
	if len(d.List()) != mostFiles || d.Used() != 0 {
		t.Fatal(d.List(), d.Used())
	}
}

// Where two errors hold, the one that is named first.
func TestFirstError(t *testing.T) {
	d := filled(t, 1)
	for _, name := range noNames() {
		errno(t, "no name, and no room for the file", d.Append(name, ""), api.ErrForm)
		errno(t, "no name, and no room", d.Append(name, "xy"), api.ErrForm)
		errno(t, "neither the file nor a right name", d.Rename("x", name), api.ErrNone)
		errno(t, "neither of no name", d.Rename(name, name), api.ErrNone)
		errno(t, "from no name", d.Rename(name, "x"), api.ErrNone)
		errno(t, "no right name", d.Rename("f0", name), api.ErrForm)
	}
	errno(t, "neither the file nor a bit", d.Flip("x", -1), api.ErrNone)
	done(t, d, mostFiles)
	d.Crash(0)
	for _, name := range noNames() {
		errno(t, "down", d.Append(name, "xy"), api.ErrDown)
		errno(t, "down", d.Rename("x", name), api.ErrDown)
		errno(t, "down", d.Rename("f0", name), api.ErrDown)
	}
}

// refusals are calls that a disk of quota 10 refuses that has a, of 8 bytes, and
// b, of 1.
func refusals() map[string]struct {
	call func(d *Disk) api.Errno
	want api.Errno
} {
	type refusal = struct {
		call func(d *Disk) api.Errno
		want api.Errno
	}
	return map[string]refusal{
		"append, no name":   {func(d *Disk) api.Errno { return d.Append("", "x") }, api.ErrForm},
		"append, no room":   {func(d *Disk) api.Errno { return d.Append("a", "xy") }, api.ErrFull},
		"append, new":       {func(d *Disk) api.Errno { return d.Append("c", "xy") }, api.ErrFull},
		"sync":              {func(d *Disk) api.Errno { return d.Sync("c") }, api.ErrNone},
		"sync, no name":     {func(d *Disk) api.Errno { return d.Sync("") }, api.ErrNone},
		"rename":            {func(d *Disk) api.Errno { return d.Rename("c", "a") }, api.ErrNone},
		"rename to itself":  {func(d *Disk) api.Errno { return d.Rename("c", "c") }, api.ErrNone},
		"rename to no name": {func(d *Disk) api.Errno { return d.Rename("a", "") }, api.ErrForm},
		"rename to a long":  {func(d *Disk) api.Errno { return d.Rename("a", strings.Repeat("n", mostName+1)) }, api.ErrForm},
		"remove":            {func(d *Disk) api.Errno { return d.Remove("c") }, api.ErrNone},
		"remove, no name":   {func(d *Disk) api.Errno { return d.Remove("") }, api.ErrNone},
		"flip":              {func(d *Disk) api.Errno { return d.Flip("c", 0) }, api.ErrNone},
		"flip, no bit":      {func(d *Disk) api.Errno { return d.Flip("b", 8) }, api.ErrRange},
		"read":              {func(d *Disk) api.Errno { _, e := d.Read("c"); return e }, api.ErrNone},
		"read, no name":     {func(d *Disk) api.Errno { _, e := d.Read(""); return e }, api.ErrNone},
	}
}

func TestRefused(t *testing.T) {
	for name, r := range refusals() {
		d := made(t, 10)
		syncedPut(t, d, "a", "123")
		put(t, d, "a", "45678")
		put(t, d, "b", "9")
		d.Arm(api.Cut{At: 2, Keep: 2})
		for range 3 {
			errno(t, name, r.call(d), r.want)
			has(t, d, "a", "12345678", "b", "9")
			done(t, d, 4)
		}
		// Nor has it synced anything, or counted for what is armed.
		put(t, d, "b", "")
		errno(t, name+": the cut", d.Sync("b"), api.ErrDown)
		errno(t, name+", down", r.call(d), downAs(name, r.want))
		done(t, d, 5)
		d.Start()
		has(t, d, "a", "12345", "b", "9")
	}
}

// downAs is the error of a call while the power is off: Flip's is its own.
func downAs(name string, on api.Errno) api.Errno {
	if strings.HasPrefix(name, "flip") {
		return on
	}
	return api.ErrDown
}

func TestNoFile(t *testing.T) {
	for _, d := range []*Disk{made(t, 10), filled(t, 10)} {
		effects := d.Effects()
		for _, name := range append(noNames(), "g", "f", "f00", "F0", "f0 ", "f0\x00", strings.Repeat("n", mostName)) {
			errno(t, "sync", d.Sync(name), api.ErrNone)
			errno(t, "rename", d.Rename(name, "h"), api.ErrNone)
			errno(t, "remove", d.Remove(name), api.ErrNone)
			errno(t, "flip", d.Flip(name, 0), api.ErrNone)
			if s, e := d.Read(name); s != "" || e != api.ErrNone {
				t.Fatal(name, s, e)
			}
		}
		done(t, d, effects)
	}
}

func TestRename(t *testing.T) {
	d := made(t, 20)
	put(t, d, "a", "abc")
	for _, name := range noNames() {
		errno(t, "no name", d.Rename("a", name), api.ErrForm)
	}
	has(t, d, "a", "abc")
	from := "a"
	for i, to := range names() {
		errno(t, "to a name", d.Rename(from, to), api.OK)
		has(t, d, to, "abc")
		done(t, d, i+2)
		if _, e := d.Read(from); e != api.ErrNone {
			t.Fatal(from, e)
		}
		from = to
	}
	errno(t, "to itself", d.Rename(from, from), api.OK)
	has(t, d, from, "abc")
	errno(t, "back", d.Rename(from, "a"), api.OK)
	put(t, d, "b", "defgh")
	put(t, d, "c", "z")
	errno(t, "to one that there is", d.Rename("a", "b"), api.OK)
	has(t, d, "b", "abc", "c", "z")
	put(t, d, "b", "!")
	put(t, d, "a", "new")
	has(t, d, "a", "new", "b", "abc!", "c", "z")
}

// What is synced of a file is so by its other name, too; of the one that had the
// name nothing stays.
func TestRenamedTails(t *testing.T) {
	d := made(t, 100)
	syncedPut(t, d, "part", "abc")
	put(t, d, "part", "def")
	syncedPut(t, d, "whole", "123456789")
	put(t, d, "none", "xyz")
	errno(t, "part to whole", d.Rename("part", "whole"), api.OK)
	errno(t, "none to part", d.Rename("none", "part"), api.OK)
	errno(t, "to itself", d.Rename("whole", "whole"), api.OK)
	has(t, d, "part", "xyz", "whole", "abcdef")
	failed(d, 1)
	has(t, d, "part", "x", "whole", "abcd")
	// What was renamed is, though it isn't synced since then.
	put(t, d, "a", "tail")
	errno(t, "to b", d.Rename("a", "b"), api.OK)
	failed(d, 0)
	has(t, d, "b", "", "part", "x", "whole", "abcd")
}

func TestRemove(t *testing.T) {
	d := made(t, 20)
	syncedPut(t, d, "a", "abcdef")
	put(t, d, "b", "x")
	errno(t, "remove", d.Remove("a"), api.OK)
	errno(t, "remove again", d.Remove("a"), api.ErrNone)
	has(t, d, "b", "x")
	done(t, d, 4)
	// A new file of that name has nothing of the old one: no bytes, none synced.
	put(t, d, "a", "12345678")
	has(t, d, "a", "12345678", "b", "x")
	failed(d, 2)
	has(t, d, "a", "12", "b", "x")
	// What was removed is, though it was synced.
	errno(t, "remove", d.Remove("a"), api.OK)
	failed(d, 99)
	has(t, d, "b", "x")
	errno(t, "the last one", d.Remove("b"), api.OK)
	has(t, d)
	failed(d, 99)
	has(t, d)
}

func TestList(t *testing.T) {
	d := made(t, 10)
	if l := d.List(); len(l) != 0 {
		t.Fatal(l)
	}
	l := []string{"b", "a", "ab", "a\x00", "aa", "B", "a\xff", "\xff", "\x00", "10", "9", "1", "\xc3\xa4", "z", "seg.10", "seg.9", "seg.1", "seg."}
	want := []string{"\x00", "1", "10", "9", "B", "a", "a\x00", "aa", "ab", "a\xff", "b", "seg.", "seg.1", "seg.10", "seg.9", "z", "\xc3\xa4", "\xff"}
	for _, name := range l {
		put(t, d, name, "")
	}
	for range 20 {
		if got := d.List(); !slices.Equal(got, want) {
			t.Fatalf("%q, want %q", got, want)
		}
	}
	// What is answered is the caller's.
	clear(d.List())
	d.Crash(0)
	if got := d.List(); !slices.Equal(got, want) {
		t.Fatalf("%q, want %q", got, want)
	}
}

// Used and Effects behind each of a row of calls.
func TestUsedAndEffects(t *testing.T) {
	d := made(t, 10)
	for i, x := range []struct {
		call          func() api.Errno
		want          api.Errno
		used, effects int
	}{
		{func() api.Errno { return d.Append("a", "") }, api.OK, 0, 1},
		{func() api.Errno { return d.Append("a", "123") }, api.OK, 3, 2},
		{func() api.Errno { return d.Append("b", "4567") }, api.OK, 7, 3},
		{func() api.Errno { return d.Append("c", "8901") }, api.ErrFull, 7, 3},
		{func() api.Errno { return d.Append("", "") }, api.ErrForm, 7, 3},
		{func() api.Errno { return d.Sync("a") }, api.OK, 7, 4},
		{func() api.Errno { return d.Sync("a") }, api.OK, 7, 5},
		{func() api.Errno { return d.Sync("c") }, api.ErrNone, 7, 5},
		{func() api.Errno { return d.Append("c", "890") }, api.OK, 10, 6},
		{func() api.Errno { return d.Rename("c", "d") }, api.OK, 10, 7},
		{func() api.Errno { return d.Rename("c", "d") }, api.ErrNone, 10, 7},
		{func() api.Errno { return d.Rename("d", "d") }, api.OK, 10, 8},
		{func() api.Errno { return d.Rename("d", "b") }, api.OK, 6, 9},
		{func() api.Errno { return d.Flip("a", 3) }, api.OK, 6, 9},
		{func() api.Errno { _, e := d.Read("a"); return e }, api.OK, 6, 9},
		{func() api.Errno { d.Crash(1); return api.OK }, api.OK, 4, 9},
		{func() api.Errno { return d.Append("a", "x") }, api.ErrDown, 4, 9},
		{func() api.Errno { return d.Remove("a") }, api.ErrDown, 4, 9},
		{func() api.Errno { d.Start(); return api.OK }, api.OK, 4, 9},
		{func() api.Errno { return d.Remove("a") }, api.OK, 1, 10},
		{func() api.Errno { return d.Remove("a") }, api.ErrNone, 1, 10},
		{func() api.Errno { return d.Remove("b") }, api.OK, 0, 11},
	} {
		if e := x.call(); e != x.want || d.Used() != x.used || d.Effects() != x.effects {
			t.Fatal(i, e, d.Used(), d.Effects())
		}
	}
}

func TestReadStays(t *testing.T) {
	d := made(t, 100)
	put(t, d, "a", strings.Repeat("x", 40))
	errno(t, "shorter", d.Rename("a", "b"), api.OK)
	syncedPut(t, d, "a", "abc")
	put(t, d, "a", "def")
	s, _ := d.Read("a")
	again, _ := d.Read("a")
	for i := range 48 {
		errno(t, "flip", d.Flip("a", i), api.OK)
	}
	put(t, d, "a", "ghi")
	failed(d, 1)
	put(t, d, "a", "###")
	errno(t, "remove", d.Remove("a"), api.OK)
	if s != "abcdef" || again != s {
		t.Fatalf("%q, %q", s, again)
	}
}

// Bytes behind those that last come to no other file, and not back.
func TestTailsDoNotComeBack(t *testing.T) {
	d := made(t, 100)
	syncedPut(t, d, "a", "12")
	put(t, d, "a", "3456")
	failed(d, 1)
	put(t, d, "a", "x")
	has(t, d, "a", "123x")
	errno(t, "rename", d.Rename("a", "b"), api.OK)
	put(t, d, "a", "new")
	put(t, d, "b", "y")
	has(t, d, "a", "new", "b", "123xy")
	failed(d, 0)
	has(t, d, "a", "", "b", "123")
}

func TestExample(t *testing.T) {
	d := made(t, 100)
	put(t, d, "a", "xy")
	d.Crash(1)
	d.Start()
	has(t, d, "a", "x")
}
