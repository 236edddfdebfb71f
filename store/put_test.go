package store

import (
	"math"
	"slices"
	"strings"
	"testing"

	"rankloft/api"
	"rankloft/doc"
	"rankloft/vdisk"
)

// altered answers a change with something done to it.
func altered(c doc.Change, do func(*doc.Change)) doc.Change {
	do(&c)
	return c
}

// terms answers n of them by rising numbers.
func terms(n int) []api.Term {
	var l []api.Term
	for i := range n {
		l = append(l, api.Term{Term: i, Weight: 1 + i})
	}
	return l
}

// wrongs are changes that aren't right, with layer 10's errors, of a document.
func wrongs(n int) map[api.Errno][]doc.Change {
	base := put(n, 1)
	at := func(do func(*doc.Change)) doc.Change { return altered(base, do) }
	return map[api.Errno][]doc.Change{
		api.ErrRange: {
			at(func(c *doc.Change) { c.Doc = -1 }), at(func(c *doc.Change) { c.Doc = 1 << 31 }), at(func(c *doc.Change) { c.Doc = math.MinInt }),
			at(func(c *doc.Change) { c.Tags = -1 }), at(func(c *doc.Change) { c.Tags = 256 }), gone(-1), gone(1 << 31),
			at(func(c *doc.Change) { c.Terms = []api.Term{{Term: -1, Weight: 1}} }), at(func(c *doc.Change) { c.Terms = []api.Term{{Term: 1 << 20, Weight: 1}} }),
			at(func(c *doc.Change) { c.Terms = []api.Term{{Term: 1}} }), at(func(c *doc.Change) { c.Terms = []api.Term{{Term: 1, Weight: 65536}} }),
			altered(gone(n), func(c *doc.Change) { c.Tags = 256 }),
		},
		api.ErrLong:  {at(func(c *doc.Change) { c.Terms = terms(65) }), altered(gone(n), func(c *doc.Change) { c.Terms = terms(65) })},
		api.ErrTwice: {at(func(c *doc.Change) { c.Terms = append(terms(3), terms(1)...) })},
		api.ErrForm: {
			at(func(c *doc.Change) { c.Terms = []api.Term{{Term: 2, Weight: 1}, {Term: 1, Weight: 1}} }),
			at(func(c *doc.Change) { c.V = nil }), at(func(c *doc.Change) { c.V = make([]int, 7) }), at(func(c *doc.Change) { c.V = make([]int, 9) }),
			at(func(c *doc.Change) { c.V = []int{0, 0, 0, 0, 0, 0, 0, 128} }), at(func(c *doc.Change) { c.V = []int{-128, 0, 0, 0, 0, 0, 0, 0} }),
			at(func(c *doc.Change) { c.Gone = true }), altered(gone(n), func(c *doc.Change) { c.Tags = 1 }), altered(gone(n), func(c *doc.Change) { c.Terms = terms(1) }), altered(gone(n), func(c *doc.Change) { c.V = make([]int, 8) }),
		},
	}
}

// kept holds that nothing but an error comes of a Put: documents, files and the
// disk's effects are as before.
func kept(t *testing.T, d *vdisk.Disk, s *Store, c doc.Change, want api.Errno) {
	t.Helper()
	docs, n, names, effects, used := s.Docs(), s.Segments(), d.List(), d.Effects(), d.Used()
	for range 2 {
		if e := s.Put(c); e != want {
			t.Fatalf("%v: error %d, want %d", c, e, want)
		}
	}
	if !slices.Equal(s.Docs(), docs) || s.Segments() != n || !slices.Equal(d.List(), names) || d.Effects() != effects || d.Used() != used {
		t.Fatalf("%v: something is changed", c)
	}
}

func TestPutOfWrongChanges(t *testing.T) {
	d := disk(t, roomy)
	s := opened(t, d)
	for range 2 {
		for _, n := range []int{1, 2, 3} {
			for want, l := range wrongs(n) {
				for _, c := range l {
					kept(t, d, s, c, want)
				}
			}
		}
		does(t, s, puts(put(1, 1)), puts(put(2, 2)), flushes(), puts(put(1, 1)))
	}
	holds(t, s, 2, with(put(1, 1), put(2, 2)))
}

func TestPutOfGone(t *testing.T) {
	d := disk(t, roomy)
	s := opened(t, d)
	none := func(l ...int) {
		t.Helper()
		for _, n := range l {
			kept(t, d, s, gone(n), api.ErrNone)
		}
	}
	none(0, 1, 2, 1<<31-1)
	has(t, d)
	does(t, s, puts(put(1, 1)), puts(put(2, 2)), puts(gone(1)))
	none(0, 1, 3)
	does(t, s, puts(put(1, 7)), puts(gone(1)), puts(gone(2)))
	none(1, 2)
	does(t, s, puts(put(3, 3)), puts(put(4, 4)), flushes(), puts(gone(3)))
	none(1, 2, 3)
	s = opened(t, d)
	none(1, 2, 3)
	does(t, s, flushes())
	none(1, 2, 3)
	does(t, s, merges())
	none(1, 2, 3)
	does(t, s, puts(gone(4)), puts(put(3, 5)))
	none(1, 2, 4)
	holds(t, s, 1, with(put(3, 5)))
	holds(t, opened(t, d), 1, with(put(3, 5)))
}

// fullOf answers a store of as many documents as there may be, 0 and on.
func fullOf(t *testing.T, d *vdisk.Disk) *Store {
	t.Helper()
	s := opened(t, d)
	for n := range mostDocs {
		does(t, s, puts(bare(n)))
	}
	return s
}

func TestPutOfTooMany(t *testing.T) {
	for _, acts := range [][]act{{}, {flushes()}, {flushes(), merges()}} {
		d := disk(t, roomy)
		s := fullOf(t, d)
		does(t, s, acts...)
		for _, s := range []*Store{s, opened(t, d)} {
			for _, n := range []int{mostDocs, mostDocs + 1, 1<<31 - 1} {
				kept(t, d, s, put(n, 1), api.ErrLong)
				kept(t, d, s, gone(n), api.ErrNone)
			}
		}
		// One that is live already may be put, and behind one that goes another one.
		does(t, s, puts(put(0, 5)), puts(put(mostDocs-1, 6)), puts(put(0, 7)))
		kept(t, d, s, put(mostDocs, 1), api.ErrLong)
		does(t, s, puts(gone(100)), puts(put(mostDocs, 1)))
		kept(t, d, s, put(100, 1), api.ErrLong)
		does(t, s, puts(gone(mostDocs)), puts(put(100, 1)))
		kept(t, d, s, put(mostDocs, 1), api.ErrLong)
		does(t, s, puts(gone(3)), puts(gone(4)), flushes(), puts(put(4, 1)), puts(put(1000, 1)))
		kept(t, d, s, put(3, 1), api.ErrLong)
		if l := s.Docs(); len(l) != mostDocs || l[3] != 4 || l[mostDocs-1] != 1000 {
			t.Fatal(l)
		}
	}
}

// Of two and more errors it is the first of layer 10's, ErrNone, ErrLong and
// layer 9's.
func TestPutWhichError(t *testing.T) {
	d := disk(t, roomy)
	s := fullOf(t, d)
	for _, n := range []int{5, 1000} {
		for want, l := range wrongs(n) {
			for _, c := range l {
				kept(t, d, s, c, want)
			}
		}
	}
	// No room, for whatever is appended.
	for d.Append("more", "x") == api.OK {
		if room := roomy - d.Used(); room > 1 {
			d.Append("more", strings.Repeat("x", room-1))
		}
	}
	all := func(full api.Errno) {
		t.Helper()
		for want, l := range wrongs(1000) {
			for _, c := range l {
				kept(t, d, s, c, want)
			}
		}
		kept(t, d, s, gone(1000), api.ErrNone)
		kept(t, d, s, put(1000, 1), api.ErrLong)
		if full == api.ErrFull {
			kept(t, d, s, put(5, 1), full)
			kept(t, d, s, gone(5), full)
		}
	}
	all(api.ErrFull)
	d.Crash(0)
	all(api.ErrDown)
	if len(s.Docs()) != mostDocs {
		t.Fatal("the store doesn't know yet")
	}
	errno(t, "the power is off, and there is no room", s.Put(gone(5)), api.ErrDown)
	holds(t, s, 0, nil)
}

func TestPutFiles(t *testing.T) {
	d := disk(t, roomy)
	s := opened(t, d)
	l := []doc.Change{
		put(5, 255), bare(0), bare(1<<31 - 1), gone(5), put(5, 0), put(300, 7), gone(1<<31 - 1),
		{Record: doc.Record{Doc: 128, Terms: terms(64), V: []int{127, -127, 1, -1, 0, 64, -64, 32}, Tags: 128}},
		{Record: doc.Record{Doc: 1, Terms: []api.Term{{Term: 1<<20 - 1, Weight: 65535}}, V: make([]int, 8)}},
	}
	for i, c := range l {
		does(t, s, puts(c))
		has(t, d, "log.0", frames(l[:i+1]...))
		if d.Effects() != 2*(i+1) {
			t.Fatal(d.Effects())
		}
		// Appended, and synced.
		twin := copied(t, d, roomy)
		d.Crash(0)
		d.Start()
		has(t, d, filesOf(t, twin)...)
		holds(t, opened(t, d), 0, with(l[:i+1]...))
	}
	// By numbers: document 5 goes, as layer 10's example tells it.
	d = disk(t, roomy)
	s = opened(t, d)
	does(t, s, puts(bare(5)), puts(gone(5)))
	has(t, d, "log.0", "\x10\x05\x00\x00\x80\x80\x80\x80\x80\x80\x80\x80\x00"+sealed("\x05\x00\x00\x80\x80\x80\x80\x80\x80\x80\x80\x00")[12:]+"\x06\x05\x01"+sealed("\x05\x01")[2:])
}

// Who opens a disk appends to a log of the next number, and to no log that is
// told; without a Put there is no log.
func TestPutToTheNextLog(t *testing.T) {
	d := disk(t, roomy)
	var want []string
	for n := range 12 {
		for range 3 {
			opened(t, d)
		}
		s := opened(t, d)
		a, b := put(n, n), put(200, n)
		does(t, s, puts(a), puts(b))
		want = append(want, logFile(n), frames(a, b))
		sorted := slices.Clone(want)
		if n > 9 {
			// Names rise otherwise than numbers.
			sorted = slices.Concat(want[:4], want[20:], want[4:20])
		}
		has(t, d, sorted...)
	}
	s := opened(t, d)
	does(t, s, flushes(), puts(put(1, 77)))
	has(t, d, "log.12", frames(put(1, 77)), "man", manifestBytes(12, 0), "seg.0", segmentOf(with(
		put(0, 0), put(1, 1), put(2, 2), put(3, 3), put(4, 4), put(5, 5), put(6, 6), put(7, 7), put(8, 8), put(9, 9), put(10, 10), put(11, 11), put(200, 11))))
	does(t, opened(t, d), puts(put(1, 78)), puts(put(1, 79)))
	has(t, d, "log.12", frames(put(1, 77)), "log.13", frames(put(1, 78), put(1, 79)), "man", manifestBytes(12, 0), "seg.0", filesOf(t, d)[7])
}

// A log of which nothing is whole counts as one that is told.
func TestPutBehindWhatIsTorn(t *testing.T) {
	for _, torn := range []string{"", "x", "\x80", frames(put(1, 1))[:9], frames(put(1, 1)) + "\x10"} {
		d := disk(t, roomy, "log.0", torn)
		s := opened(t, d)
		does(t, s, puts(put(2, 2)))
		has(t, d, "log.0", torn, "log.1", frames(put(2, 2)))
		want := with(append(wholeFrames(torn), put(2, 2))...)
		holds(t, s, 0, want)
		holds(t, opened(t, d), 0, want)
	}
}

func TestGetAnswersNewMemory(t *testing.T) {
	d := disk(t, roomy)
	s := opened(t, d)
	l := []doc.Change{put(1, 1), put(2, 2), {Record: doc.Record{Doc: 3, Terms: terms(64), V: make([]int, 8)}}}
	want := with(l...)
	spoil := func(s *Store, segments int) {
		t.Helper()
		for n := range want {
			a, _ := s.Get(n)
			b, _ := s.Get(n)
			for i := range a.Terms {
				a.Terms[i] = api.Term{Term: 9, Weight: 9}
			}
			for i := range a.V {
				a.V[i] = 9
			}
			_, _ = append(a.Terms, api.Term{}), append(a.V, 7)
			if !alike(b, want[n].Record) {
				t.Fatalf("document %d: two answers share memory", n)
			}
		}
		docs := s.Docs()
		for i := range docs {
			docs[i] = -1
		}
		holds(t, s, segments, want)
	}
	for _, c := range l {
		does(t, s, puts(c))
	}
	spoil(s, 0)
	spoil(opened(t, d), 0)
	does(t, s, flushes())
	spoil(s, 1)
	spoil(opened(t, d), 1)
	does(t, s, merges())
	spoil(s, 1)
	spoil(opened(t, d), 1)
	holds(t, opened(t, d), 1, want)
}

// What is handed in isn't changed, its spare room neither, and not kept.
func TestPutKeepsNothing(t *testing.T) {
	for _, acts := range [][]act{{}, {flushes()}, {flushes(), merges()}} {
		d := disk(t, roomy)
		s := opened(t, d)
		roomOfTerms, roomOfV := append(terms(5), terms(3)...), []int{1, 2, 3, 4, 5, 6, 7, 8, 9, 10}
		c := doc.Change{Record: doc.Record{Doc: 7, Terms: roomOfTerms[:5], V: roomOfV[:8], Tags: 1}}
		want := with(doc.Change{Record: doc.Record{Doc: 7, Terms: terms(5), V: []int{1, 2, 3, 4, 5, 6, 7, 8}, Tags: 1}})
		does(t, s, puts(c))
		if !slices.Equal(roomOfTerms, append(terms(5), terms(3)...)) || !slices.Equal(roomOfV, []int{1, 2, 3, 4, 5, 6, 7, 8, 9, 10}) {
			t.Fatal("what is handed in is changed")
		}
		clear(roomOfTerms)
		clear(roomOfV)
		holds(t, s, 0, want)
		does(t, s, acts...)
		holds(t, s, min(len(acts), 1), want)
		holds(t, opened(t, d), min(len(acts), 1), want)
	}
}
