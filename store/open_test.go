package store

import (
	"slices"
	"strings"
	"testing"

	"rankloft/api"
	"rankloft/doc"
	"rankloft/vdisk"
)

func TestOpenNew(t *testing.T) {
	d := disk(t, 1)
	for range 2 {
		holds(t, opened(t, d), 0, nil)
	}
	for _, n := range []int{0, 1, -1, 5, 1<<31 - 1} {
		none(t, opened(t, d), n)
	}
	has(t, d)
}

// corrupt holds that a disk that is on isn't opened, nor written to.
func corrupt(t *testing.T, d *vdisk.Disk) {
	t.Helper()
	refused(t, d, api.ErrCorrupt)
}

// refused holds that a disk isn't opened, nor written to.
func refused(t *testing.T, d *vdisk.Disk, want api.Errno) {
	t.Helper()
	names, effects, used, down := d.List(), d.Effects(), d.Used(), d.Down()
	for range 2 {
		if s, e := Open(d); s != nil || e != want {
			t.Fatalf("%v, error %d, want %d, of %q", s, e, want, names)
		}
	}
	if !slices.Equal(d.List(), names) || d.Effects() != effects || d.Used() != used || d.Down() != down {
		t.Fatal("Open wrote something")
	}
}

func TestOpenOff(t *testing.T) {
	for _, files := range [][]string{
		{},
		{"man", manifestBytes(0)},
		{"man", "no manifest"},
		{"man", manifestBytes(0, 1)},
		{"man", manifestBytes(0, 1), "seg.1", "no segment"},
		{"log.0", frames(put(1, 1))},
	} {
		d := disk(t, roomy, files...)
		d.Crash(0)
		refused(t, d, api.ErrDown)
		d.Start()
		has(t, d, files...)
	}
	d := disk(t, roomy, "log.0", frames(put(1, 1)))
	d.Crash(0)
	refused(t, d, api.ErrDown)
	d.Start()
	holds(t, opened(t, d), 0, with(put(1, 1)))
}

// segments are the files of some: 3, 5 and 900.
func segments() []string {
	return []string{"seg.3", segment(put(1, 1), put(2, 2)), "seg.5", segment(gone(1), put(4, 4)), "seg.900", segment()}
}

func TestOpenOfManifests(t *testing.T) {
	for _, x := range []struct {
		man      string
		segments int
		want     map[int]doc.Change
	}{
		{manifestBytes(0), 0, nil},
		{manifestBytes(1 << 30), 0, nil},
		{manifestBytes(0, 3), 1, with(put(1, 1), put(2, 2))},
		{manifestBytes(7, 5), 1, with(put(4, 4))},
		{manifestBytes(128, 900), 1, nil},
		{manifestBytes(1<<30, 3, 5), 2, with(put(2, 2), put(4, 4))},
		{manifestBytes(1, 3, 5, 900), 3, with(put(2, 2), put(4, 4))},
	} {
		holds(t, opened(t, disk(t, roomy, append(segments(), "man", x.man)...)), x.segments, x.want)
	}
}

func TestOpenOfNoManifest(t *testing.T) {
	whole := manifestBytes(300, 3, 5, 900)
	told := whole[:len(whole)-4]
	l := []string{
		"", "a", "abc", "abcd", "abcde", told, whole + "x", whole + whole, "x" + whole, sealed(whole),
		// Sealed, and none.
		sealed(""), sealed("\x00"), sealed("\x05"), sealed("\x80"), sealed("\x00\x80"),
		manifestBytes(1<<30 + 1), manifestBytes(1<<31, 3), manifestBytes(1<<62, 3), manifestBytes(1<<63-1, 3),
		sealed(varint(0) + varint(2) + "\x03"), sealed(varint(0) + varint(1)),
		sealed("\x80\x00" + varint(0)), sealed(varint(0) + "\x80\x00"), sealed(varint(0) + varint(1) + "\x83\x00"),
		sealed("\xff\xff\xff\xff\xff\xff\xff\xff\xff\x01" + varint(0)),
		// Segments that fall: beyond the greatest number there is.
		sealed(varint(0) + varint(2) + varint(3) + varint(1<<63-1)),
		sealed(varint(0) + varint(2) + varint(1<<63-1) + varint(0)),
		sealed(varint(0) + varint(1<<20) + "\x03"), sealed(varint(0) + varint(1<<20+1) + "\x03"), sealed(varint(0) + varint(1<<63-1)),
		sealed(told + "\x00"), sealed(told + told), sealed(varint(0) + varint(0) + varint(0)), sealed("\x00" + told),
	}
	for n := range len(whole) {
		l = append(l, whole[:n])
	}
	for n := range len(told) {
		l = append(l, sealed(told[:n]))
	}
	for bit := range 8 * len(whole) {
		b := []byte(whole)
		b[bit/8] ^= 1 << (bit % 8)
		l = append(l, string(b))
	}
	for _, man := range l {
		corrupt(t, disk(t, roomy, append(segments(), "man", man)...))
		corrupt(t, disk(t, roomy, append(segments(), "log.0", frames(put(9, 9)), "man", man, "man.new", whole)...))
	}
}

// More segments than a disk of any quota can tell.
func TestOpenOfTooManySegments(t *testing.T) {
	const rest = mostQuota - 8
	for _, count := range []int{rest, 1 << 20, 1<<20 + 1} {
		man := sealed("\x00" + varint(count) + strings.Repeat("\x00", rest))
		d := disk(t, mostQuota, "man", man)
		corrupt(t, d)
	}
}

func TestOpenOfNoSegment(t *testing.T) {
	l := []doc.Change{put(1, 1), gone(2), put(300, 3)}
	whole := segment(l...)
	told := whole[:len(whole)-4]
	body := bytesOf(l[0]) + bytesOf(l[1]) + bytesOf(l[2])
	wrong := []string{
		told, whole + "x", "x" + whole, whole + whole, sealed(whole), sealed(""), sealed("\x80"),
		// Too few, and too many.
		sealed(varint(0) + body), sealed(varint(1) + body), sealed(varint(2) + body),
		sealed(varint(4) + body), sealed(varint(1)), sealed(varint(128) + body), sealed(varint(1<<63-1) + body), sealed("\x83\x00" + body),
		sealed("\xff\xff\xff\xff\xff\xff\xff\xff\xff\x01" + body),
		// Documents that fall, or are the same.
		segment(l[1], l[0], l[2]), segment(l[0], l[2], l[1]), segment(l[2], l[1], l[0]), segment(put(300, 3), put(1, 1)),
		segment(put(1, 1), put(1, 1)), segment(put(1, 1), gone(1)), segment(gone(1), put(1, 1)), segment(gone(5), gone(5)), segment(gone(1), gone(0)),
		sealed(told + "\x00"), sealed(told + bytesOf(gone(301))),
		// What is none of layer 10's.
		sealed(varint(1) + "\x05\x02"), sealed(varint(1) + "\x85\x00\x01"), sealed(varint(1) + varint(1<<31) + "\x01"),
		sealed(varint(1) + "\x05\x00\x01\x07\x00\x00" + strings.Repeat("\x80", 8) + "\x00"), sealed(varint(1) + "\x05\x00\x00" + strings.Repeat("\x00", 8) + "\x00"),
	}
	for n := range len(whole) {
		wrong = append(wrong, whole[:n])
	}
	for n := range len(told) {
		wrong = append(wrong, sealed(told[:n]))
	}
	for bit := range 8 * len(whole) {
		b := []byte(whole)
		b[bit/8] ^= 1 << (bit % 8)
		wrong = append(wrong, string(b))
	}
	for _, s := range wrong {
		corrupt(t, disk(t, roomy, "man", manifestBytes(0, 0), "seg.0", s))
		corrupt(t, disk(t, roomy, "man", manifestBytes(0, 2, 3), "seg.2", s, "seg.3", whole))
		corrupt(t, disk(t, roomy, "man", manifestBytes(0, 2, 3), "seg.2", whole, "seg.3", s))
		// One that the manifest doesn't tell plays no part.
		holds(t, opened(t, disk(t, roomy, "man", manifestBytes(0, 3), "seg.2", s, "seg.3", whole)), 1, with(l...))
	}
}

func TestOpenOfASegmentThatIsNotThere(t *testing.T) {
	whole := segment(put(1, 1))
	for _, numbers := range [][]int{{0, 1}, {1, 2}, {1, 3}, {0}, {2}, {10}, {1, 1<<63 - 1}} {
		corrupt(t, disk(t, roomy, "man", manifestBytes(0, numbers...), "seg.1", whole, "seg.01", whole, "seg.", whole, "log.0", whole, "log.2", whole))
	}
	holds(t, opened(t, disk(t, roomy, "man", manifestBytes(0, 1<<63-1), "seg.9223372036854775807", whole)), 1, with(put(1, 1)))
}

// A bit of a segment is turned: the example.
func TestFlips(t *testing.T) {
	d := disk(t, roomy)
	s := opened(t, d)
	does(t, s, puts(put(1, 1)), puts(put(2, 2)), flushes(), puts(gone(1)), flushes(), puts(put(5, 5)))
	for _, name := range []string{"man", "seg.0", "seg.1"} {
		text, _ := d.Read(name)
		for bit := range 8 * len(text) {
			d.Flip(name, bit)
			corrupt(t, d)
			d.Flip(name, bit)
		}
	}
	holds(t, opened(t, d), 2, with(put(2, 2), put(5, 5)))
}

// A segment may tell more documents than there may be, if they are gone.
func TestOpenOfAGreatSegment(t *testing.T) {
	var l []doc.Change
	want := map[int]doc.Change{}
	for n := range 1000 {
		c := gone(n)
		if n%4 == 0 {
			c = bare(n)
			want[n] = c
		}
		l = append(l, c)
	}
	s := opened(t, disk(t, roomy, "man", manifestBytes(0, 0), "seg.0", segment(l...)))
	holds(t, s, 1, want)
	does(t, s, merges())
	holds(t, s, 1, want)
}

// By rising numbers, not by rising names: a later one takes away what an earlier
// one put.
func TestOpenInOrder(t *testing.T) {
	d := disk(t, roomy,
		"man", manifestBytes(9, 9, 10, 100),
		"seg.100", segment(put(1, 100), put(4, 100)), "seg.9", segment(put(1, 9), put(2, 9), put(3, 9), put(4, 9)), "seg.10", segment(put(1, 10), put(2, 10), gone(3)),
		"log.10", frames(put(5, 10), gone(4)), "log.11", frames(put(6, 11), gone(5), gone(7)), "log.9", frames(put(5, 9), put(6, 9), put(7, 9)),
		"log.8", frames(put(20, 8)), "log.0", frames(gone(1)), "log.13", frames(put(21, 13)), "log.99", frames(gone(2)))
	holds(t, opened(t, d), 3, with(put(1, 100), put(2, 10), put(6, 11)))
}

func TestOpenLogsFromTheFirst(t *testing.T) {
	var files []string
	for n := range 14 {
		files = append(files, logFile(n), frames(put(n, n), put(100, n), gone(100-n%2)))
	}
	for first := range 16 {
		d := disk(t, roomy, append(slices.Clone(files), "man", manifestBytes(first))...)
		var l []doc.Change
		for n := first; n < 14; n++ {
			l = append(l, put(n, n), put(100, n), gone(100-n%2))
		}
		holds(t, opened(t, d), 0, with(l...))
	}
	for out := range 14 {
		d := disk(t, roomy, files...)
		d.Remove(logFile(out))
		var l []doc.Change
		for n := range out {
			l = append(l, put(n, n), put(100, n), gone(100-n%2))
		}
		s := opened(t, d)
		holds(t, s, 0, with(l...))
		does(t, s, puts(put(77, 7)))
		if text, e := d.Read(logFile(out)); text != frames(put(77, 7)) || e != api.OK {
			t.Fatalf("%d: %q, %d", out, text, e)
		}
	}
}

func TestOpenOfGreatNumbers(t *testing.T) {
	d := disk(t, roomy, "man", manifestBytes(1<<30), "log.1073741824", frames(put(1, 1)), "log.1073741825", frames(put(2, 2)), "log.1073741823", frames(put(3, 3)))
	s := opened(t, d)
	holds(t, s, 0, with(put(1, 1), put(2, 2)))
	does(t, s, puts(put(4, 4)))
	if text, _ := d.Read("log.1073741826"); text != frames(put(4, 4)) {
		t.Fatalf("%q", filesOf(t, d))
	}
}

// Each log is told as far as its frames are whole, and the next one too.
func TestOpenOfCutFrames(t *testing.T) {
	l := []doc.Change{put(1, 1), gone(1), put(300, 3), put(2, 200)}
	whole := frames(l...)
	var ends []int
	for n := range l {
		ends = append(ends, len(frames(l[:n+1]...)))
	}
	for n := range len(whole) + 1 {
		d := disk(t, roomy, "log.0", frames(put(50, 5)), "log.1", whole[:n], "log.2", frames(put(51, 5)), "log.3", "")
		are := 0
		for are < len(l) && ends[are] <= n {
			are++
		}
		s := opened(t, d)
		holds(t, s, 0, with(append(slices.Clone(l[:are]), put(50, 5), put(51, 5))...))
		// Behind what is cut off nothing is appended.
		does(t, s, puts(put(77, 7)))
		has(t, d, "log.0", frames(put(50, 5)), "log.1", whole[:n], "log.2", frames(put(51, 5)), "log.3", "", "log.4", frames(put(77, 7)))
	}
}

// A frame whose seal is broken amid others, at each of its bits.
func TestOpenOfBrokenFrames(t *testing.T) {
	ahead, amid, behind := frames(put(1, 1)), frames(put(2, 2)), frames(put(3, 3))
	for bit := range 8 * len(amid) {
		b := []byte(amid)
		b[bit/8] ^= 1 << (bit % 8)
		d := disk(t, roomy, "log.0", ahead+string(b)+behind, "log.1", frames(put(4, 4)))
		holds(t, opened(t, d), 0, with(put(1, 1), put(4, 4)))
		holds(t, opened(t, disk(t, roomy, "log.0", string(b)+behind)), 0, nil)
	}
}

// What is framed and sealed, and is no change, ends a log too.
func TestOpenOfNoFrames(t *testing.T) {
	for _, s := range []string{
		"\x00", "\x80", "\x01", "\x03abc", "\x04abcd", framed(""), framed("\x05"), framed("\x05\x02"), framed("\x05\x01\x00"), framed(bytesOf(put(2, 2)) + "x"),
		framed(bytesOf(put(2, 2))[1:]), framed(bytesOf(gone(5)) + bytesOf(gone(5))), framed(varint(1<<31) + "\x01"), framed("\x85\x00\x01"),
		"\x86\x00" + sealed(bytesOf(gone(5))), "\x05" + sealed(bytesOf(gone(5))), "\x07" + sealed(bytesOf(gone(5))), "\x06\x05\x01abcd",
		varint(1<<63-1) + sealed(bytesOf(gone(5))), "\xff\xff\xff\xff\xff\xff\xff\xff\xff\x01", varint(1<<31) + "x", bytesOf(gone(5)),
	} {
		files := []string{"log.0", frames(put(5, 5)) + s + frames(put(2, 2)), "log.1", s, "log.2", s + frames(put(3, 3)), "log.3", frames(put(4, 4)) + s}
		d := disk(t, roomy, files...)
		s := opened(t, d)
		holds(t, s, 0, with(put(5, 5), put(4, 4)))
		does(t, s, puts(gone(5)))
		has(t, d, append(files, "log.4", frames(gone(5)))...)
	}
}

// strangers are names that the chapter doesn't name, though some look like it.
func strangers() []string {
	return []string{
		"log", "log.", "log.00", "log.01", "log.-1", "log.+1", "log. 1", "log.1 ", "log.1x", "log.x", "log.0x1", "log.1.", "log.1.1", "log.\xd9\xa1", "Log.1", "xlog.1",
		"seg", "seg.", "seg.00", "seg.01", "seg.-1", "seg.+1", "seg.1_0", "seg.x", "seg.1x", "seg.1.new", "xseg.1", "seg1",
		"man.", "man.0", "man.new.", "man.newer", "man.old", "Man", "manifest", "new", ".new", "xman.new", "a", "zzz", "\x00", "\xff",
	}
}

func TestOpenBesideStrangers(t *testing.T) {
	var files, kept []string
	for i, name := range strangers() {
		files = append(files, name, []string{"", "x", frames(put(70, 7)), segment(put(70, 7)), manifestBytes(5)}[i%5])
	}
	d := disk(t, roomy, files...)
	kept = filesOf(t, d)
	s := opened(t, d)
	holds(t, s, 0, nil)
	does(t, s, puts(put(1, 1)), flushes(), puts(put(2, 2)), puts(gone(1)), flushes(), merges(), puts(put(3, 3)))
	holds(t, s, 1, with(put(2, 2), put(3, 3)))
	holds(t, opened(t, d), 1, with(put(2, 2), put(3, 3)))
	for i := 0; i < len(kept); i += 2 {
		if text, e := d.Read(kept[i]); text != kept[i+1] || e != api.OK {
			t.Fatalf("%q: %q, %d", kept[i], text, e)
		}
	}
	for _, name := range []string{"log.2", "man", "seg.2"} {
		d.Remove(name)
	}
	has(t, d, kept...)
}

// What lies there of acts that were cut plays no part, right or not.
func TestOpenBesideWhatIsLeftOver(t *testing.T) {
	for _, s := range []string{"", "x", manifestBytes(9), manifestBytes(0), segment(put(70, 7)), frames(put(70, 7))} {
		d := disk(t, roomy, "log.0", s, "log.4", s, "log.5", frames(put(2, 2)), "man", manifestBytes(5, 1), "man.new", s, "seg.0", s, "seg.1", segment(put(1, 1)), "seg.2", s)
		holds(t, opened(t, d), 1, with(put(1, 1), put(2, 2)))
		d = disk(t, roomy, "log.1", s, "man.new", s, "seg.0", s)
		holds(t, opened(t, d), 0, nil)
	}
}

// Beyond a store's bound a disk tells what it tells; only nothing more is put.
func TestOpenOfTooManyDocuments(t *testing.T) {
	var l []doc.Change
	for n := range mostDocs + 4 {
		l = append(l, bare(n))
	}
	s := opened(t, disk(t, roomy, "log.0", frames(l...)))
	holds(t, s, 0, with(l...))
	errno(t, "one more", s.Put(bare(1000)), api.ErrLong)
	for n := range 5 {
		errno(t, "one more", s.Put(bare(1000)), api.ErrLong)
		does(t, s, puts(bare(n)), puts(gone(n)))
	}
	does(t, s, puts(bare(1000)))
}
