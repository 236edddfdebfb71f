package store

import (
	"maps"
	"slices"
	"testing"

	"rankloft/api"
	"rankloft/doc"
	"rankloft/vdisk"
)

// beginning is what lies on a disk, and what its store does ahead of the act that
// is looked at.
type beginning struct {
	files []string
	acts  []act
}

func beginnings() []beginning {
	files, _ := leftOvers()
	return []beginning{
		{},
		{acts: []act{puts(put(1, 1))}},
		{acts: []act{puts(put(1, 1)), flushes()}},
		{acts: []act{puts(put(1, 1)), flushes(), puts(put(2, 2))}},
		{acts: []act{puts(put(1, 1)), puts(put(2, 2)), flushes(), puts(gone(1)), puts(put(3, 3)), flushes(), puts(put(1, 4))}},
		{acts: []act{puts(put(1, 1)), puts(put(2, 2)), flushes(), puts(gone(1)), flushes(), merges(), puts(gone(2))}},
		{files: []string{"log.0", frames(put(1, 1), put(2, 2)), "log.1", frames(gone(1)) + "\x10torn", "log.2", ""}},
		{files: []string{"log.0", frames(put(1, 1)), "man.new", manifestBytes(1, 0), "seg.0", segment(put(1, 1))}},
		{files: []string{"log.9", frames(put(1, 1)), "log.10", frames(put(2, 2)), "man", manifestBytes(9, 4, 40), "man.new", "x", "seg.4", segment(put(4, 4)), "seg.40", segment(put(1, 9), gone(4)), "seg.41", "x"}},
		{files: files[len(files)-8:]},
		{files: slices.Concat([]string{"log.0", "x", "log.99", "x", "seg.4", "x", "seg.41", "x", "man.new", "x"}, files[len(files)-8:]), acts: []act{puts(put(9, 9))}},
	}
}

// on answers a disk as it is then, and its store.
func (b beginning) on(t *testing.T) (*vdisk.Disk, *Store) {
	t.Helper()
	d := disk(t, roomy, b.files...)
	s := opened(t, d)
	does(t, s, b.acts...)
	return d, s
}

// lookedAt are acts of each kind, that have no error wherever they are done.
func lookedAt() []act {
	return []act{puts(put(7, 7)), puts(put(1, 100)), puts(put(300, 0)), flushes(), merges()}
}

// keeps are how many bytes of a tail last: none, some, and all.
func keeps() []int { return []int{-1, 0, 1, 2, 3, 5, 9, 20, 30, 1000} }

// lostAs holds that a store tells nothing any more, and does nothing, whether the
// power is on again or off, but a wrong change is a wrong one still.
func lostAs(t *testing.T, d *vdisk.Disk, s *Store) {
	t.Helper()
	names, effects, used := d.List(), d.Effects(), d.Used()
	for range 2 {
		holds(t, s, 0, nil)
		for n := range 12 {
			none(t, s, n)
			errno(t, "Put of one that goes", s.Put(gone(n)), api.ErrDown)
		}
		errno(t, "Put", s.Put(put(1, 1)), api.ErrDown)
		errno(t, "Put", s.Put(put(77, 1)), api.ErrDown)
		errno(t, "Flush", s.Flush(), api.ErrDown)
		errno(t, "Merge", s.Merge(), api.ErrDown)
		errno(t, "Put of a wrong change", s.Put(put(-1, 1)), api.ErrRange)
		errno(t, "Put of a wrong change", s.Put(doc.Change{}), api.ErrForm)
	}
	if !slices.Equal(d.List(), names) || d.Effects() != effects || d.Used() != used {
		t.Fatal("a store that is lost writes")
	}
}

// eachCut does an act with the power failing at each of its effects, and hands on
// what comes of it: a disk that is on again, the documents ahead of the act, and
// what it told.
func eachCut(t *testing.T, b beginning, a act, then func(d *vdisk.Disk, ahead told)) {
	t.Helper()
	for _, keep := range keeps() {
		for at := 1; ; at++ {
			d, s := b.on(t)
			p := plainOf(t, copied(t, d, roomy))
			p.log = s.log
			ahead := p.told
			effects := d.Effects() - p.disk.Effects()
			for _, d := range []*vdisk.Disk{d, p.disk} {
				d.Arm(api.Cut{At: at, Keep: keep})
			}
			want := p.do(a)
			errno(t, a.String(), a.on(s), want)
			if d.Effects()-effects != p.disk.Effects() || d.Down() != (want == api.ErrDown) {
				t.Fatalf("%s, cut at %d: %d effects, want %d", a, at, d.Effects()-effects, p.disk.Effects())
			}
			if want == api.OK {
				break
			}
			lostAs(t, d, s)
			d.Start()
			p.disk.Start()
			lostAs(t, d, s)
			has(t, d, filesOf(t, p.disk)...)
			then(d, ahead)
		}
	}
}

// Behind any failure the store that is opened is as it was, or with the change
// that was being put; opened twice it is the same; and it goes on.
func TestCutAnywhere(t *testing.T) {
	for _, b := range beginnings() {
		for _, a := range lookedAt() {
			eachCut(t, b, a, func(d *vdisk.Disk, ahead told) {
				s := opened(t, d)
				want := ahead.live()
				if r, ok := s.Get(a.change.Doc); a.kind == aPut && ok && alike(r, a.change.Record) {
					want[a.change.Doc] = a.change
				}
				holds(t, s, s.Segments(), want)
				if n := s.Segments() - len(ahead.segments); a.kind == aPut && n != 0 || a.kind == aFlush && n != 0 && n != 1 || a.kind == aMerge && n != 0 && s.Segments() != 1 {
					t.Fatal(s.Segments(), ahead.segments)
				}
				twice := opened(t, d)
				holds(t, twice, s.Segments(), want)
				goesOn(t, d, twice, want)
			})
		}
	}
}

// goesOn holds that a store does acts as the words say, with documents that are
// there.
func goesOn(t *testing.T, d *vdisk.Disk, s *Store, want map[int]doc.Change) {
	t.Helper()
	want = maps.Clone(want)
	p := plainOf(t, copied(t, d, roomy))
	for _, c := range []doc.Change{put(50, 5), put(7, 8), gone(50), put(1, 11)} {
		for _, a := range []act{puts(c), flushes(), merges()} {
			errno(t, a.String(), a.on(s), p.do(a))
			has(t, d, filesOf(t, p.disk)...)
			if a.kind == aPut {
				delete(want, c.Doc)
			}
			if a.kind == aPut && !c.Gone {
				want[c.Doc] = c
			}
			holds(t, s, len(p.told.segments), want)
			holds(t, opened(t, d), len(p.told.segments), want)
		}
	}
	// Behind all that, nothing is left over.
	v := tells(t, d)
	for _, name := range d.List() {
		if leftOver(name, v.first, v.segments) {
			t.Fatal(d.List())
		}
	}
}

// A Put is there, if all of its frame lasts, and isn't else.
func TestCutPut(t *testing.T) {
	size := len(frames(put(7, 7)))
	for at := 1; at <= 2; at++ {
		for keep := range size + 3 {
			d := disk(t, roomy)
			s := opened(t, d)
			does(t, s, puts(put(1, 1)))
			d.Arm(api.Cut{At: at, Keep: keep})
			errno(t, "Put", s.Put(put(7, 7)), api.ErrDown)
			d.Start()
			want := with(put(1, 1))
			if keep >= size {
				want = with(put(1, 1), put(7, 7))
			}
			has(t, d, "log.0", frames(put(1, 1))+frames(put(7, 7))[:min(keep, size)])
			s = opened(t, d)
			holds(t, s, 0, want)
			does(t, s, puts(put(8, 8)))
			want[8] = put(8, 8)
			has(t, d, "log.0", frames(put(1, 1))+frames(put(7, 7))[:min(keep, size)], "log.1", frames(put(8, 8)))
			holds(t, opened(t, d), 0, want)
		}
	}
}

// Cut again while it goes on, and again, at each effect.
func TestCutTwice(t *testing.T) {
	b := beginnings()[4]
	for _, a := range []act{flushes(), merges(), puts(put(7, 7))} {
		for first := 1; first < 12; first++ {
			for second := 1; second < 14; second++ {
				d, s := b.on(t)
				want := tells(t, d).live()
				for _, at := range []int{first, second, 3} {
					d.Arm(api.Cut{At: at, Keep: first % 4 * 7})
					for _, a := range []act{a, merges(), flushes()} {
						a.on(s)
					}
					d.Crash(0)
					d.Start()
					s = opened(t, d)
					if r, ok := s.Get(7); ok && alike(r, put(7, 7).Record) {
						want[7] = put(7, 7)
					}
					holds(t, s, s.Segments(), want)
				}
				does(t, s, flushes(), merges())
				goesOn(t, d, s, want)
			}
		}
	}
}

// With the power off already: an act that would write is refused, and the store
// is lost; until then it tells what it told.
func TestOff(t *testing.T) {
	for _, b := range beginnings() {
		for _, a := range append(lookedAt(), puts(gone(1)), puts(gone(2))) {
			d, s := b.on(t)
			ahead := tells(t, d)
			p := &plain{t: t, disk: copied(t, d, roomy), log: s.log, told: ahead}
			d.Crash(0)
			p.disk.Crash(0)
			holds(t, s, len(ahead.segments), ahead.live())
			want := p.do(a)
			errno(t, a.String(), a.on(s), want)
			if want != api.ErrDown {
				holds(t, s, len(ahead.segments), ahead.live())
				continue
			}
			lostAs(t, d, s)
			refused(t, d, api.ErrDown)
			d.Start()
			lostAs(t, d, s)
			holds(t, opened(t, d), len(ahead.segments), ahead.live())
			goesOn(t, d, opened(t, d), ahead.live())
		}
	}
}

// A failure between two acts, over ahead of the second one, takes nothing away:
// what was done is synced.
func TestFailureBetweenActs(t *testing.T) {
	d, p := disk(t, roomy), plainOf(t, disk(t, roomy))
	s := opened(t, d)
	for _, a := range manyActs() {
		errno(t, a.String(), a.on(s), p.do(a))
		for _, d := range []*vdisk.Disk{d, p.disk} {
			d.Crash(0)
			d.Start()
		}
		as(t, d, s, p)
		holds(t, opened(t, d), s.Segments(), p.told.live())
	}
}

// The example: Put, Flush, Crash, Open: the document.
func TestExample(t *testing.T) {
	for _, keep := range keeps() {
		d := disk(t, roomy)
		s := opened(t, d)
		does(t, s, puts(put(1, 1)), flushes())
		d.Crash(keep)
		d.Start()
		holds(t, opened(t, d), 1, with(put(1, 1)))
	}
}
