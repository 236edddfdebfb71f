package store

import (
	"slices"
	"strings"
	"testing"

	"rankloft/api"
	"rankloft/vdisk"
)

// toldFiles are the files of a disk that is on and right that tell something:
// name, bytes, name, bytes.
func toldFiles(t *testing.T, d *vdisk.Disk) []string {
	t.Helper()
	v := tells(t, d)
	names := []string{"man"}
	for n := v.first; n < v.next; n++ {
		names = append(names, logFile(n))
	}
	for _, n := range v.segments {
		names = append(names, segmentFile(n))
	}
	var l []string
	files := filesOf(t, d)
	for i := 0; i < len(files); i += 2 {
		if slices.Contains(names, files[i]) {
			l = append(l, files[i], files[i+1])
		}
	}
	return l
}

// full makes a store do an act, and holds that nothing is changed, if there is no
// room for it: no document, no file that is told, nor what is opened.
func full(t *testing.T, d *vdisk.Disk, s *Store, a act) api.Errno {
	t.Helper()
	v, n, files := tells(t, d), s.Segments(), toldFiles(t, d)
	holds(t, s, n, v.live())
	e := a.on(s)
	if e != api.ErrFull {
		return e
	}
	if l := toldFiles(t, d); !slices.Equal(l, files) {
		t.Fatalf("%s: %q, want %q", a, l, files)
	}
	holds(t, s, n, v.live())
	holds(t, opened(t, d), n, v.live())
	return e
}

// manyActs is a row of acts without errors, if there is room.
func manyActs() []act {
	return []act{
		puts(put(1, 1)), puts(put(2, 2)), merges(), flushes(), puts(put(1, 3)), puts(gone(2)), flushes(), puts(put(300, 3)), merges(),
		puts(put(4, 4)), puts(put(5, 5)), flushes(), puts(gone(1)), flushes(), puts(put(1, 9)), merges(), flushes(), merges(), puts(put(6, 6)),
	}
}

// Disks of each quota: what there is no room for is refused, and what there is
// room for is done, as by the words.
func TestFullDisks(t *testing.T) {
	refusals := map[int]int{}
	for quota := 1; quota < 700; quota++ {
		d := disk(t, quota)
		s, p := opened(t, d), plainOf(t, disk(t, quota))
		for _, a := range manyActs() {
			want := p.do(a)
			if e := full(t, d, s, a); e != want {
				t.Fatalf("quota %d: %s: error %d, want %d", quota, a, e, want)
			}
			if want == api.ErrFull {
				refusals[a.kind]++
			}
			as(t, d, s, p)
		}
		// What is opened then has the same room.
		s, p = opened(t, d), plainOf(t, p.disk)
		for _, a := range manyActs() {
			if e, want := full(t, d, s, a), p.do(a); e != want {
				t.Fatalf("quota %d: %s again: error %d, want %d", quota, a, e, want)
			}
			as(t, d, s, p)
		}
	}
	for kind := range 3 {
		if refusals[kind] == 0 {
			t.Fatal("none is refused of the kind", kind)
		}
	}
}

// A Put that just goes, and one of a byte too many.
func TestFullPut(t *testing.T) {
	one, two := len(frames(put(1, 1))), len(frames(put(1, 1), put(2, 2)))
	for quota := one - 3; quota < two+9; quota++ {
		fits := func(n int) api.Errno {
			if n > quota {
				return api.ErrFull
			}
			return api.OK
		}
		d := disk(t, quota)
		s := opened(t, d)
		errno(t, "the first one", full(t, d, s, puts(put(1, 1))), fits(one))
		if quota < one {
			has(t, d)
			continue
		}
		errno(t, "the second one", full(t, d, s, puts(put(2, 2))), fits(two))
		if quota >= two {
			has(t, d, "log.0", frames(put(1, 1), put(2, 2)))
			errno(t, "the first one goes", full(t, d, s, puts(gone(1))), fits(two+len(frames(gone(1)))))
			continue
		}
		has(t, d, "log.0", frames(put(1, 1)))
		errno(t, "the first one goes", full(t, d, s, puts(gone(1))), fits(one+len(frames(gone(1)))))
	}
}

// A disk of as many files as it may have.
func TestFullOfFiles(t *testing.T) {
	for left := range 5 {
		d := disk(t, roomy, "log.0", frames(put(1, 1)), "man", manifestBytes(0, 0), "seg.0", segment(put(2, 2)))
		for n := 3; n < mostFiles-left; n++ {
			d.Append("x"+strings.Repeat("y", n%20)+string(rune('A'+n)), "")
		}
		s, p := opened(t, d), plainOf(t, copied(t, d, roomy))
		for i, a := range []act{puts(put(3, 3)), flushes(), merges(), flushes(), puts(gone(1)), puts(put(4, 4)), flushes(), merges()} {
			e := full(t, d, s, a)
			if want := p.do(a); e != want {
				t.Fatalf("%d left: act %d, %s: error %d, want %d", left, i, a, e, want)
			}
			if i == 0 && (e == api.ErrFull) != (left == 0) {
				t.Fatalf("%d left: error %d", left, e)
			}
			if !slices.Equal(s.Docs(), opened(t, d).Docs()) || !slices.Equal(filesOf(t, d), filesOf(t, p.disk)) {
				t.Fatalf("%d left: act %d: %q, want %q", left, i, filesOf(t, d), filesOf(t, p.disk))
			}
		}
	}
}

// What was refused goes, as soon as there is room again.
func TestRoomAgain(t *testing.T) {
	for quota := 200; quota < 500; quota++ {
		d := disk(t, quota, "stranger", strings.Repeat("x", 150))
		s := opened(t, d)
		var last act
		e := api.OK
		for _, last = range manyActs() {
			if e = full(t, d, s, last); e != api.OK {
				break
			}
		}
		if e == api.OK {
			continue
		}
		errno(t, "no room", e, api.ErrFull)
		want := tells(t, d).live()
		if last.kind == aPut {
			delete(want, last.change.Doc)
			if !last.change.Gone {
				want[last.change.Doc] = last.change
			}
		}
		errno(t, "the stranger goes", d.Remove("stranger"), api.OK)
		does(t, s, last)
		holds(t, s, s.Segments(), want)
		holds(t, opened(t, d), s.Segments(), want)
	}
}
