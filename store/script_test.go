package store

import (
	"slices"
	"testing"

	"rankloft/api"
	"rankloft/doc"
	"rankloft/vdisk"
)

// step is one of a script: an act, or a failure of the power now, or one to come.
type step struct {
	act
	crash bool
	keep  int
	cut   api.Cut
	open  bool
}

// script answers one of n steps, over so many documents.
func (q *sequence) script(n, documents int) []step {
	var l []step
	for range n {
		x := step{act: puts(put(q.below(documents), q.below(256)))}
		switch q.below(12) {
		case 0, 1, 2:
			x.act = puts(gone(q.below(documents)))
		case 3:
			x.act = flushes()
		case 4:
			x.act = merges()
		case 5:
			x.act = puts(altered(x.change, func(c *doc.Change) { c.Tags = 256 * (q.below(3) - 1) }))
		}
		switch q.below(20) {
		case 0:
			x.crash, x.keep = true, q.below(40)-1
		case 1, 2, 3:
			x.cut = api.Cut{At: 1 + q.below(14), Keep: q.below(60) - 1}
		case 4:
			x.open = true
		}
		l = append(l, x)
	}
	return l
}

// ahead does what comes ahead of a step's act on a disk.
func (x step) ahead(d *vdisk.Disk) {
	if x.crash {
		d.Crash(x.keep)
	}
	if x.cut.At > 0 {
		d.Arm(x.cut)
	}
}

// Scripts of many acts with failures of the power between and in them, held
// against a store by the words, file by file, and against a list of documents.
func TestScripts(t *testing.T) {
	for seed := range 400 {
		q := sequence(seed)
		quota := []int{roomy, 3000, 1000, 400}[seed%4]
		d, twin := disk(t, quota), disk(t, quota)
		s, p := opened(t, d), plainOf(t, twin)
		list := map[int]doc.Change{}
		for i, x := range q.script(120, []int{5, 30, 1000}[seed%3]) {
			x.ahead(d)
			x.ahead(twin)
			want := p.do(x.act)
			if e := x.act.on(s); e != want {
				t.Fatalf("%d: step %d, %s: error %d, want %d", seed, i, x.act, e, want)
			}
			as(t, d, s, p)
			if want == api.OK {
				x.act.to(list)
			}
			if x.open || d.Down() {
				d.Start()
				twin.Start()
				s, p = opened(t, d), plainOf(t, twin)
				as(t, d, s, p)
				x.act.orNot(s, want, list)
			}
			holds(t, s, s.Segments(), list)
		}
	}
}

// to does an act to a list of documents.
func (a act) to(list map[int]doc.Change) {
	if a.kind != aPut {
		return
	}
	delete(list, a.change.Doc)
	if !a.change.Gone {
		list[a.change.Doc] = a.change
	}
}

// orNot does an act to a list if the power failed during it, and a store that is
// opened then has its change.
func (a act) orNot(s *Store, e api.Errno, list map[int]doc.Change) {
	r, ok := s.Get(a.change.Doc)
	if a.kind == aPut && e == api.ErrDown && ok != a.change.Gone && (!ok || alike(r, a.change.Record)) {
		a.to(list)
	}
}

// Rows of whole stores: up to as many documents as there may be, and beyond.
func TestGreatScripts(t *testing.T) {
	for seed := range 6 {
		q := sequence(seed)
		d, twin := disk(t, mostQuota), disk(t, mostQuota)
		s, p := opened(t, d), plainOf(t, twin)
		list := map[int]doc.Change{}
		tooMany := false
		for i := range 900 {
			a := puts(put(i*7%400, q.below(256)))
			switch q.below(40) {
			case 0:
				a = flushes()
			case 1:
				a = merges()
			case 2, 3:
				a = puts(gone(q.below(400)))
			}
			want := p.do(a)
			if e := a.on(s); e != want {
				t.Fatalf("%d: act %d, %s: error %d, want %d", seed, i, a, e, want)
			}
			tooMany = tooMany || want == api.ErrLong
			if want == api.OK {
				a.to(list)
			}
			if i%60 == 0 {
				s = opened(t, d)
				p = plainOf(t, twin)
				as(t, d, s, p)
			}
		}
		holds(t, s, s.Segments(), list)
		if !tooMany {
			t.Fatal("never too many")
		}
	}
}

// The same calls again answer the same, whatever other stores do in between.
func TestTheSameAgain(t *testing.T) {
	for seed := range 40 {
		q := sequence(seed)
		l := q.script(80, 20)
		a, b, other := disk(t, 2000), disk(t, 2000), disk(t, 900)
		s, u, o := opened(t, a), opened(t, b), opened(t, other)
		for i, x := range l {
			x.ahead(a)
			x.ahead(b)
			e := x.act.on(s)
			l[len(l)-1-i].on(o)
			if again := x.act.on(u); again != e || !slices.Equal(s.Docs(), u.Docs()) || s.Segments() != u.Segments() || a.Effects() != b.Effects() {
				t.Fatalf("%d: step %d, %s: error %d, and %d", seed, i, x.act, e, again)
			}
			a.Start()
			b.Start()
			has(t, b, filesOf(t, a)...)
			if e == api.ErrDown {
				s, u = opened(t, a), opened(t, b)
			}
		}
		for i := range l {
			m, ok := s.Get(i)
			n, is := u.Get(i)
			if ok != is || !alike(m, n) {
				t.Fatal(m, n)
			}
		}
	}
}

// How the files came onto the disk plays no part.
func TestOpenHangsOnFilesAlone(t *testing.T) {
	for seed := range 30 {
		q := sequence(seed)
		d := disk(t, roomy)
		s := opened(t, d)
		for _, x := range q.script(60, 20) {
			x.act.on(s)
			if x.open {
				s = opened(t, d)
			}
		}
		files := filesOf(t, d)
		var turned []string
		for i := len(files) - 2; i >= 0; i -= 2 {
			turned = append(turned, files[i], files[i+1])
		}
		other := disk(t, roomy, turned...)
		u := opened(t, other)
		holds(t, u, s.Segments(), tells(t, d).live())
		for _, a := range []act{flushes(), puts(put(3, 3)), merges(), flushes()} {
			errno(t, a.String(), a.on(u), a.on(opened(t, d)))
		}
		if !slices.Equal(u.Docs(), opened(t, d).Docs()) {
			t.Fatal(u.Docs())
		}
	}
}
