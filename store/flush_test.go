package store

import (
	"slices"
	"testing"

	"rankloft/api"
	"rankloft/doc"
	"rankloft/vdisk"
)

// idle holds that acts are done without an error, and write nothing.
func idle(t *testing.T, d *vdisk.Disk, s *Store, acts ...act) {
	t.Helper()
	files, effects, docs, n := filesOf(t, d), d.Effects(), s.Docs(), s.Segments()
	does(t, s, acts...)
	has(t, d, files...)
	if d.Effects() != effects || !slices.Equal(s.Docs(), docs) || s.Segments() != n {
		t.Fatal("something is written, or changed")
	}
}

func TestFlushOfNothing(t *testing.T) {
	d := disk(t, roomy)
	s := opened(t, d)
	idle(t, d, s, flushes(), flushes())
	errno(t, "no such document", s.Put(gone(1)), api.ErrNone)
	errno(t, "no change", s.Put(put(-1, 0)), api.ErrRange)
	idle(t, d, s, flushes())
	does(t, s, puts(put(1, 1)), flushes())
	idle(t, d, s, flushes(), flushes())
	idle(t, d, opened(t, d), flushes())
	does(t, s, merges())
	idle(t, d, s, flushes())
	errno(t, "no such document", s.Put(gone(2)), api.ErrNone)
	idle(t, d, s, flushes())
	// Logs of which nothing is whole tell no change, and older ones none that counts.
	for _, files := range [][]string{{"log.0", ""}, {"log.0", "x", "log.1", frames(put(1, 1))[:5]}, {"log.4", frames(put(1, 1)), "man", manifestBytes(5), "man.new", "x", "seg.8", "x"}} {
		d := disk(t, roomy, files...)
		idle(t, d, opened(t, d), flushes(), merges())
	}
	// With the power off nothing is done either.
	s = opened(t, d)
	d.Crash(0)
	errno(t, "nothing to flush", s.Flush(), api.OK)
	holds(t, s, 1, with(put(1, 1)))
}

func TestFlushFiles(t *testing.T) {
	d := disk(t, roomy)
	s := opened(t, d)
	does(t, s, puts(put(300, 1)), puts(put(5, 2)), flushes())
	has(t, d, "man", manifestBytes(1, 0), "seg.0", segment(put(5, 2), put(300, 1)))
	holds(t, s, 1, with(put(5, 2), put(300, 1)))
	// Put, put again, and gone: the last change of each that came, gone ones too.
	does(t, s, puts(put(5, 3)), puts(put(5, 4)), puts(gone(300)), puts(put(7, 7)), puts(gone(7)), puts(put(1, 1)), puts(gone(1)), puts(put(1, 2)))
	has(t, d, "log.1", frames(put(5, 3), put(5, 4), gone(300), put(7, 7), gone(7), put(1, 1), gone(1), put(1, 2)), "man", manifestBytes(1, 0), "seg.0", segment(put(5, 2), put(300, 1)))
	does(t, s, flushes())
	has(t, d, "man", manifestBytes(2, 0, 1), "seg.0", segment(put(5, 2), put(300, 1)), "seg.1", segment(put(1, 2), put(5, 4), gone(7), gone(300)))
	holds(t, s, 2, with(put(1, 2), put(5, 4)))
	does(t, s, puts(gone(1)), flushes())
	has(t, d, "man", manifestBytes(3, 0, 1, 2), "seg.0", segment(put(5, 2), put(300, 1)), "seg.1", segment(put(1, 2), put(5, 4), gone(7), gone(300)), "seg.2", segment(gone(1)))
	holds(t, s, 3, with(put(5, 4)))
	holds(t, opened(t, d), 3, with(put(5, 4)))
	// What came ahead of the last Flush isn't told again.
	does(t, s, puts(put(9, 9)), flushes())
	text, _ := d.Read("seg.3")
	if text != segment(put(9, 9)) {
		t.Fatalf("%q", text)
	}
	// By numbers.
	d = disk(t, roomy)
	s = opened(t, d)
	does(t, s, puts(bare(5)), puts(gone(5)), flushes())
	has(t, d, "man", sealed("\x01\x01\x00"), "seg.0", sealed("\x01\x05\x01"))
}

// Changes that logs alone tell are flushed by who opened them; the next change
// goes to the log behind them all.
func TestFlushOfLogsAlone(t *testing.T) {
	d := disk(t, roomy, "log.0", frames(put(1, 1), put(2, 2)), "log.1", frames(put(2, 3), gone(1))+"\x10torn", "log.2", "")
	s := opened(t, d)
	does(t, s, flushes())
	has(t, d, "man", manifestBytes(3, 0), "seg.0", segment(gone(1), put(2, 3)))
	holds(t, s, 1, with(put(2, 3)))
	idle(t, d, s, flushes())
	does(t, s, puts(put(4, 4)))
	has(t, d, "log.3", frames(put(4, 4)), "man", manifestBytes(3, 0), "seg.0", segment(gone(1), put(2, 3)))
	// With changes of its own behind them.
	s = opened(t, d)
	does(t, s, puts(put(5, 5)), flushes())
	has(t, d, "man", manifestBytes(5, 0, 1), "seg.0", segment(gone(1), put(2, 3)), "seg.1", segment(put(4, 4), put(5, 5)))
	holds(t, s, 2, with(put(2, 3), put(4, 4), put(5, 5)))
	holds(t, opened(t, d), 2, with(put(2, 3), put(4, 4), put(5, 5)))
	// A document that only a log takes away, and of which no segment knows.
	d = disk(t, roomy, "log.0", frames(gone(8)))
	does(t, opened(t, d), flushes())
	has(t, d, "man", manifestBytes(1, 0), "seg.0", segment(gone(8)))
}

func TestMergeOfNone(t *testing.T) {
	d := disk(t, roomy)
	s := opened(t, d)
	idle(t, d, s, merges(), merges())
	does(t, s, puts(put(1, 1)))
	idle(t, d, s, merges())
	has(t, d, "log.0", frames(put(1, 1)))
	d = disk(t, roomy, "log.4", "x", "log.6", frames(put(1, 1)), "man", manifestBytes(6), "man.new", "x", "seg.8", "x")
	idle(t, d, opened(t, d), merges())
	s = opened(t, d)
	d.Crash(0)
	errno(t, "nothing to merge", s.Merge(), api.OK)
	holds(t, s, 0, with(put(1, 1)))
}

func TestMergeFiles(t *testing.T) {
	d := disk(t, roomy)
	s := opened(t, d)
	// Of one segment: what it leaves live.
	does(t, s, puts(put(300, 1)), puts(put(5, 2)), puts(put(6, 2)), puts(gone(6)), flushes(), merges())
	has(t, d, "man", manifestBytes(1, 1), "seg.1", segment(put(5, 2), put(300, 1)))
	holds(t, s, 1, with(put(5, 2), put(300, 1)))
	does(t, s, merges())
	has(t, d, "man", manifestBytes(1, 2), "seg.2", segment(put(5, 2), put(300, 1)))
	// Of many, the later ones of which put again and take away; what came since
	// stays in the log.
	does(t, s, puts(put(5, 3)), puts(put(7, 3)), flushes(), puts(gone(300)), puts(put(8, 4)), flushes(), puts(put(300, 9)), puts(gone(7)), puts(gone(8)), puts(put(9, 9)))
	log := frames(put(300, 9), gone(7), gone(8), put(9, 9))
	has(t, d, "log.3", log, "man", manifestBytes(3, 2, 3, 4), "seg.2", segment(put(5, 2), put(300, 1)), "seg.3", segment(put(5, 3), put(7, 3)), "seg.4", segment(put(8, 4), gone(300)))
	want := with(put(5, 3), put(300, 9), put(9, 9))
	holds(t, s, 3, want)
	does(t, s, merges())
	has(t, d, "log.3", log, "man", manifestBytes(3, 5), "seg.5", segment(put(5, 3), put(7, 3), put(8, 4)))
	holds(t, s, 1, want)
	holds(t, opened(t, d), 1, want)
	// The log goes on behind it.
	does(t, s, puts(put(1, 1)))
	has(t, d, "log.3", log+frames(put(1, 1)), "man", manifestBytes(3, 5), "seg.5", segment(put(5, 3), put(7, 3), put(8, 4)))
	does(t, s, flushes())
	has(t, d, "man", manifestBytes(4, 5, 6), "seg.5", segment(put(5, 3), put(7, 3), put(8, 4)), "seg.6", segment(put(1, 1), gone(7), gone(8), put(9, 9), put(300, 9)))
	does(t, s, merges())
	has(t, d, "man", manifestBytes(4, 7), "seg.7", segment(put(1, 1), put(5, 3), put(9, 9), put(300, 9)))
}

func TestMergeOfNothingLive(t *testing.T) {
	d := disk(t, roomy)
	s := opened(t, d)
	does(t, s, puts(put(1, 1)), puts(put(2, 2)), flushes(), puts(gone(1)), puts(gone(2)), merges())
	has(t, d, "log.1", frames(gone(1), gone(2)), "man", manifestBytes(1, 1), "seg.1", segment(put(1, 1), put(2, 2)))
	holds(t, s, 1, nil)
	does(t, s, flushes(), merges())
	has(t, d, "man", manifestBytes(2, 3), "seg.3", sealed("\x00"))
	holds(t, s, 1, nil)
	holds(t, opened(t, d), 1, nil)
	does(t, s, merges(), puts(put(1, 5)), flushes())
	has(t, d, "man", manifestBytes(3, 4, 5), "seg.4", sealed("\x00"), "seg.5", segment(put(1, 5)))
}

// What a disk told when it was opened is merged as what was put is.
func TestMergeOfWhatWasOpened(t *testing.T) {
	d := disk(t, roomy, "log.7", frames(put(1, 77), gone(4)), "man", manifestBytes(7, 3, 5, 900), "seg.3", segment(put(1, 1), put(2, 2)), "seg.5", segment(gone(1), put(4, 4)), "seg.900", segment(put(6, 6)))
	s := opened(t, d)
	does(t, s, merges())
	has(t, d, "log.7", frames(put(1, 77), gone(4)), "man", manifestBytes(7, 901), "seg.901", segment(put(2, 2), put(4, 4), put(6, 6)))
	holds(t, s, 1, with(put(1, 77), put(2, 2), put(6, 6)))
	does(t, s, puts(put(4, 5)))
	has(t, d, "log.7", frames(put(1, 77), gone(4)), "log.8", frames(put(4, 5)), "man", manifestBytes(7, 901), "seg.901", segment(put(2, 2), put(4, 4), put(6, 6)))
	does(t, s, flushes())
	has(t, d, "man", manifestBytes(9, 901, 902), "seg.901", segment(put(2, 2), put(4, 4), put(6, 6)), "seg.902", segment(put(1, 77), put(4, 5)))
}

// leftOvers are files beside a manifest of the log 100 and the segments 3 and 40,
// with what is removed of them by who clears, by rising names.
func leftOvers() (files, removed []string) {
	removed = []string{
		"log.0", "log.10", "log.9", "log.99", "man.new",
		"seg.0", "seg.10", "seg.2", "seg.39", "seg.4", "seg.400", "seg.42", "seg.9223372036854775807", "seg.9223372036854775808", "seg.9999999999999999999999999999",
	}
	for _, name := range removed {
		files = append(files, name, "left over")
	}
	// These are no older logs: of greater numbers, or of none.
	for _, name := range []string{"log.1000", "log.102", "log.9223372036854775808", "log.9999999999999999999999999999", "log.00", "log.099", "seg.041", "seg.00", "log.", "seg."} {
		files = append(files, name, "kept")
	}
	return append(files, "log.100", frames(put(1, 1)), "man", manifestBytes(100, 3, 40), "seg.3", segment(put(2, 2)), "seg.40", segment(put(4, 4))), removed
}

// rest answers a disk's files but those of some names.
func rest(t *testing.T, d *vdisk.Disk, but ...string) []string {
	t.Helper()
	var l []string
	files := filesOf(t, d)
	for i := 0; i < len(files); i += 2 {
		if !slices.Contains(but, files[i]) {
			l = append(l, files[i], files[i+1])
		}
	}
	return l
}

// Both clear ahead: what lies there goes, effect by effect by rising names, until
// the segment is appended.
func TestClearAhead(t *testing.T) {
	for _, a := range []act{flushes(), merges()} {
		files, removed := leftOvers()
		for at := 1; at <= len(removed)+1; at++ {
			d := disk(t, roomy, files...)
			s := opened(t, d)
			want := rest(t, d, removed[:at-1]...)
			if at == len(removed)+1 {
				i := slices.Index(want, "seg.40")
				want = slices.Insert(want, i+2, "seg.41", "")
			}
			d.Arm(api.Cut{At: at})
			errno(t, a.String(), a.on(s), api.ErrDown)
			d.Start()
			has(t, d, want...)
			holds(t, opened(t, d), 2, with(put(1, 1), put(2, 2), put(4, 4)))
		}
		// A file of the segment's own name is gone before it is written.
		d := disk(t, roomy, append(files, "seg.41", "left over")...)
		s := opened(t, d)
		does(t, s, a)
		want := with(put(1, 1), put(2, 2), put(4, 4))
		holds(t, s, 3-2*(a.kind-aFlush), want)
		holds(t, opened(t, d), 3-2*(a.kind-aFlush), want)
		for _, name := range removed {
			if slices.Contains(d.List(), name) {
				t.Fatalf("%s: %q", a, d.List())
			}
		}
		for i := 2 * len(removed); i < len(files)-8; i += 2 {
			if text, e := d.Read(files[i]); text != "kept" || e != api.OK {
				t.Fatalf("%s: %q: %q, %d", a, files[i], text, e)
			}
		}
	}
}

// Both clear behind: the logs that were flushed, the segments that were merged.
func TestClearBehind(t *testing.T) {
	d := disk(t, roomy, "log.9", frames(put(1, 1)), "log.10", frames(put(2, 2)), "log.11", frames(put(3, 3)), "man", manifestBytes(9, 9), "seg.9", segment(put(4, 4)))
	s := opened(t, d)
	// seg.10 appended and synced, man.new too, and renamed: then the logs go by
	// rising names.
	for _, x := range [][]string{{"log.10", "log.11", "log.9"}, {"log.11", "log.9"}, {"log.9"}, {}} {
		d := copied(t, d, roomy)
		s := opened(t, d)
		d.Arm(api.Cut{At: 9 - len(x)})
		e := s.Flush()
		if len(x) > 0 {
			errno(t, "cut behind", e, api.ErrDown)
		}
		d.Start()
		if l := d.List(); !slices.Equal(l, append(x, "man", "seg.10", "seg.9")) {
			t.Fatalf("%q", l)
		}
		holds(t, opened(t, d), 2, with(put(1, 1), put(2, 2), put(3, 3), put(4, 4)))
	}
	does(t, s, flushes())
	segments := []string{"seg.10", segment(put(1, 1), put(2, 2), put(3, 3)), "seg.9", segment(put(4, 4))}
	has(t, d, append([]string{"man", manifestBytes(12, 9, 10)}, segments...)...)
	for _, x := range [][]string{segments, segments[2:], nil} {
		d := copied(t, d, roomy)
		s := opened(t, d)
		d.Arm(api.Cut{At: 8 - len(x)/2})
		e := s.Merge()
		if len(x) > 0 {
			errno(t, "cut behind", e, api.ErrDown)
		}
		d.Start()
		want := append([]string{"man", manifestBytes(12, 11)}, "seg.11", segment(put(1, 1), put(2, 2), put(3, 3), put(4, 4)))
		if len(x) == 4 {
			want = slices.Insert(want, 2, x[:2]...)
		}
		if len(x) > 0 {
			want = append(want, x[len(x)-2:]...)
		}
		has(t, d, want...)
		holds(t, opened(t, d), 1, with(put(1, 1), put(2, 2), put(3, 3), put(4, 4)))
	}
}

// Flushes and merges change no document, wherever they stand.
func TestFlushAndMergeChangeNothing(t *testing.T) {
	l := []doc.Change{put(1, 1), put(2, 2), gone(1), put(3, 3), put(2, 9), put(1, 8), gone(3), gone(2), put(2, 7)}
	for seed := range 200 {
		q := sequence(seed)
		d := disk(t, roomy)
		s := opened(t, d)
		for i, c := range l {
			does(t, s, puts(c))
			for q.below(2) == 0 {
				does(t, s, []act{flushes(), merges()}[q.below(2)])
				holds(t, s, s.Segments(), with(l[:i+1]...))
				holds(t, opened(t, d), s.Segments(), with(l[:i+1]...))
			}
		}
	}
}

// The numbers of segments are one above all that are told, whatever was there.
func TestNumbers(t *testing.T) {
	d := disk(t, roomy)
	s := opened(t, d)
	for n := range 25 {
		does(t, s, puts(put(1, n)), puts(put(n, n)), flushes())
		if text, _ := d.Read(segmentFile(2 * n)); text == "" || s.Segments() != min(n, 1)+1 {
			t.Fatal(n, d.List(), s.Segments())
		}
		text, _ := d.Read("man")
		want := manifestBytes(n+1, 2*n)
		if n > 0 {
			want = manifestBytes(n+1, 2*n-1, 2*n)
		}
		if text != want {
			t.Fatalf("%d: %x, want %x", n, text, want)
		}
		if n%3 == 0 {
			s = opened(t, d)
		}
		does(t, s, merges())
		if text, _ := d.Read("man"); text != manifestBytes(n+1, 2*n+1) {
			t.Fatalf("%d: %x", n, text)
		}
	}
}

// Behind the last number there is, for a log or a segment, none is left: that is
// refused, and nothing is changed.
func TestNumbersAreUsedUp(t *testing.T) {
	const last = 1<<63 - 1
	for _, x := range []struct {
		man  string
		acts []act
	}{
		{manifestBytes(1<<30, 5), []act{flushes()}},
		{manifestBytes(7, 5, last), []act{flushes(), merges()}},
	} {
		d := disk(t, roomy, "man", x.man, "seg.5", segment(put(5, 5)), "seg.9223372036854775807", segment(put(6, 6)))
		s := opened(t, d)
		does(t, s, puts(put(1, 1)))
		files, docs, n := filesOf(t, d), s.Docs(), s.Segments()
		for _, a := range x.acts {
			errno(t, a.String(), a.on(s), api.ErrFull)
			has(t, d, files...)
			if !slices.Equal(s.Docs(), docs) || s.Segments() != n {
				t.Fatal(s.Docs(), s.Segments())
			}
		}
		does(t, s, puts(put(2, 2)))
	}
	d := disk(t, roomy, "man", manifestBytes(1<<30-1, last-1), "seg.9223372036854775806", segment(put(5, 5)))
	s := opened(t, d)
	does(t, s, puts(put(1, 1)), flushes())
	has(t, d, "man", manifestBytes(1<<30, last-1, last), "seg.9223372036854775806", segment(put(5, 5)), "seg.9223372036854775807", segment(put(1, 1)))
	holds(t, opened(t, d), 2, with(put(1, 1), put(5, 5)))
	d = disk(t, roomy, "man", manifestBytes(1<<30, 1), "seg.1", segment(put(5, 5)))
	does(t, opened(t, d), merges())
	has(t, d, "man", manifestBytes(1<<30, 2), "seg.2", segment(put(5, 5)))
}
