package hybrid

import (
	"slices"
	"strings"
	"testing"

	"rankloft/api"
	"rankloft/doc"
	"rankloft/vdisk"
)

// answersOf are those of an engine to all that may be asked, one behind the other.
func answersOf(e *Engine) []string {
	var l []string
	for _, r := range battery() {
		l = append(l, e.Serve(bytesOf(r)))
	}
	return append(l, varintsOf(e.Docs()...))
}

// answers are those of the list.
func (p *plain) answers() []string {
	var l []string
	for _, r := range battery() {
		l = append(l, p.serve(r))
	}
	return append(l, varintsOf(p.numbers()...))
}

// script answers n drawn requests; puts are most of them, of few documents.
func (s *sequence) script(n int) []Request {
	var l []Request
	for range n {
		switch s.below(16) {
		case 0, 1, 2:
			l = append(l, s.request())
		case 3:
			l = append(l, flushes())
		case 4:
			l = append(l, merges())
		case 5, 6, 7:
			l = append(l, asks(s.query()))
		case 8, 9:
			l = append(l, goes(s.below(12)))
		case 10:
			l = append(l, gets(s.below(12)))
		case 11:
			l = append(l, counts())
		default:
			l = append(l, puts(s.record(s.below(12))))
		}
	}
	return l
}

// Rows of requests are answered as a list of documents answers them; flushes and
// merges behind each of them change no answer.
func TestModel(t *testing.T) {
	for seed := range 150 {
		s := sequence(seed)
		rows := [][]Request{nil, {flushes()}, {merges()}, {flushes(), merges()}, {merges(), flushes()}}
		disks, engines, lists := make([]*vdisk.Disk, len(rows)), make([]*Engine, len(rows)), make([]*plain, len(rows))
		for i := range rows {
			disks[i] = newDisk(t, mostQuota)
			engines[i], lists[i] = opened(t, disks[i]), newPlain()
		}
		for _, r := range s.script(60) {
			first := lists[0].clone().serve(r)
			for i, row := range rows {
				if seed%3 == i%3 && s.below(10) == 0 {
					engines[i] = opened(t, disks[i])
				}
				want := lists[i].serve(r)
				if a := engines[i].Serve(bytesOf(r)); a != want || r.Op != 5 && a != first {
					t.Fatalf("%d, row %d: %+v: %x, want %x, %x", seed, i, r, a, want, first)
				}
				for _, x := range row {
					serves(t, engines[i], lists[i], x)
				}
			}
		}
		for i := range rows {
			holds(t, engines[i], lists[i])
			holds(t, opened(t, disks[i]), lists[i])
		}
	}
}

// A row of the same requests again is answered the same, whatever another engine
// does in between.
func TestScriptsAgain(t *testing.T) {
	for seed := range 60 {
		s := sequence(seed)
		l := s.script(60)
		quota := s.one(mostQuota, 900, 400)
		a, b, other := newDisk(t, quota), newDisk(t, quota), newDisk(t, 500)
		e, f, g := opened(t, a), opened(t, b), opened(t, other)
		for i, r := range l {
			want := e.Serve(bytesOf(r))
			g.Serve(bytesOf(l[len(l)-1-i]))
			if s := f.Serve(bytesOf(r)); s != want {
				t.Fatalf("%+v: %x, want %x", r, s, want)
			}
		}
		if !slices.Equal(answersOf(e), answersOf(f)) || !slices.Equal(filesOf(t, a), filesOf(t, b)) || e.Served() != f.Served() {
			t.Fatal(seed)
		}
	}
}

// beginnings are what was done ahead of a request that the power fails in.
func beginnings() [][]Request {
	a, b, c := puts(few()[0]), puts(few()[1]), puts(few()[2])
	return [][]Request{
		nil,
		{a},
		{a, b, flushes()},
		{a, b, flushes(), c, goes(0)},
		{a, flushes(), b, flushes(), c, flushes(), goes(4), puts(few()[3])},
		{a, b, flushes(), goes(0), flushes(), merges(), c},
	}
}

// after answers a disk behind these requests, its engine, and the list.
func after(t *testing.T, quota int, l []Request) (*vdisk.Disk, *Engine, *plain) {
	t.Helper()
	d := newDisk(t, quota)
	e, p := opened(t, d), newPlain()
	for _, r := range l {
		serves(t, e, p, r)
	}
	return d, e, p
}

// lookedAt are requests of each kind that write.
func lookedAt() []Request {
	s := sequence(11)
	return []Request{puts(s.record(0)), puts(s.record(9)), puts(s.record(mostDoc)), goes(0), goes(4), flushes(), merges()}
}

// The power fails at each effect amid a request, and of the tails nothing, some or
// all is kept: what is opened then answers as ahead of the request, or as behind
// it, opened twice the same, and goes on.
func TestPower(t *testing.T) {
	as := [2]int{}
	for _, begin := range beginnings() {
		for _, r := range lookedAt() {
			for _, keep := range []int{0, 1, 9, mostQuota} {
				for at := 1; ; at++ {
					d, e, ahead := after(t, mostQuota, begin)
					behind := ahead.clone()
					want := behind.serve(r)
					d.Arm(api.Cut{At: at, Keep: keep})
					s := e.Serve(bytesOf(r))
					if !d.Down() {
						if s != want {
							t.Fatalf("%x, want %x", s, want)
						}
						break
					}
					if s != "\x07" || !slices.Equal(answersOf(e), newPlain().answers()) {
						t.Fatalf("%+v: %x", r, s)
					}
					d.Start()
					p := oneOf(t, d, ahead, behind)
					as[slices.Index([]*plain{ahead, behind}, p)]++
					goesOn(t, d, p)
				}
			}
		}
	}
	if as[0] == 0 || as[1] == 0 {
		t.Error("never both:", as)
	}
}

// oneOf opens a disk twice, and answers which of two lists it answers as.
func oneOf(t *testing.T, d *vdisk.Disk, ahead, behind *plain) *plain {
	t.Helper()
	effects := d.Effects()
	l := answersOf(opened(t, d))
	if again := answersOf(opened(t, d)); !slices.Equal(again, l) || d.Effects() != effects {
		t.Fatalf("%x, and %x", l, again)
	}
	for _, p := range []*plain{ahead, behind} {
		if slices.Equal(p.answers(), l) {
			return p
		}
	}
	t.Fatalf("%x, want %x or %x", l, ahead.answers(), behind.answers())
	return nil
}

// goesOn holds that what is opened goes on as the list does.
func goesOn(t *testing.T, d *vdisk.Disk, p *plain) {
	t.Helper()
	e := opened(t, d)
	s := sequence(13)
	for _, r := range []Request{puts(s.record(5)), flushes(), goes(5), merges(), puts(s.record(0)), counts(), flushes(), merges()} {
		serves(t, e, p, r)
	}
	holds(t, e, p)
	holds(t, opened(t, d), p)
}

// A request that only asks, or has nothing to do, has no effect in which the power
// could fail.
func TestPowerWhileAsking(t *testing.T) {
	for _, begin := range beginnings() {
		d, e, p := after(t, mostQuota, append(begin, flushes(), merges()))
		d.Arm(api.Cut{At: 1})
		holds(t, e, p)
		for _, s := range []string{"", "\x00\x0b\x01", "\x02", "\x01"} {
			e.Serve(s)
		}
		if d.Down() {
			t.Fatal(begin)
		}
		e.Serve(bytesOf(puts(few()[4])))
		if !d.Down() {
			t.Fatal("a put has effects")
		}
	}
}

// Between two requests the power may fail, and nothing is lost.
func TestPowerBetween(t *testing.T) {
	for seed := range 60 {
		s := sequence(seed)
		d := newDisk(t, mostQuota)
		e, p := opened(t, d), newPlain()
		for _, r := range s.script(40) {
			serves(t, e, p, r)
			d.Crash(s.one(-1, 0, 1, 1000))
			d.Start()
			if s.below(3) == 0 {
				e = opened(t, d)
			}
		}
		holds(t, e, p)
		holds(t, opened(t, d), p)
	}
}

// Rows of requests in which the power fails again and again.
func TestPowerScripts(t *testing.T) {
	cuts := 0
	for seed := range 200 {
		s := sequence(seed)
		d := newDisk(t, mostQuota)
		e, p := opened(t, d), newPlain()
		for _, r := range s.script(60) {
			d.Arm(api.Cut{At: s.below(5) * s.below(4), Keep: s.one(0, 3, 20, 1000)})
			behind := p.clone()
			want := behind.serve(r)
			a := e.Serve(bytesOf(r))
			if d.Down() {
				cuts++
				d.Start()
				p = oneOf(t, d, p, behind)
				e = opened(t, d)
				if a != "\x07" {
					t.Fatalf("%x", a)
				}
				continue
			}
			if p = behind; a != want {
				t.Fatalf("%x, want %x", a, want)
			}
		}
		holds(t, e, p)
	}
	if cuts < 300 {
		t.Error(cuts)
	}
}

// A document is put, flushed; the power fails; it is found.
func TestFlushedLasts(t *testing.T) {
	for _, keep := range []int{0, 1, mostQuota} {
		d, _, p := after(t, mostQuota, []Request{puts(few()[0]), flushes()})
		d.Crash(keep)
		d.Start()
		e := opened(t, d)
		finds(t, e, good(0), 0, 10, 1)
		holds(t, e, p)
	}
}

// fullAs serves a request on a disk that may have no room, and tells whether it
// was refused for that: then all is answered as it was.
func fullAs(t *testing.T, d *vdisk.Disk, e *Engine, p *plain, r Request) bool {
	t.Helper()
	ahead := p.clone()
	want := p.serve(r)
	a := e.Serve(bytesOf(r))
	if a != "\x06" {
		if a != want {
			t.Fatalf("%+v: %x, want %x", r, a, want)
		}
		return false
	}
	*p = *ahead
	if r.Op == 1 || r.Op > 3 || want != "\x00" {
		t.Fatalf("%+v: %x, want %x", r, a, want)
	}
	for range 2 {
		if !slices.Equal(answersOf(e), p.answers()) || !slices.Equal(answersOf(opened(t, d)), p.answers()) {
			t.Fatalf("%+v", r)
		}
		if a := e.Serve(bytesOf(r)); a != "\x06" {
			t.Fatalf("%+v again: %x", r, a)
		}
	}
	return true
}

// A disk that has no room: what is refused changes nothing.
func TestFull(t *testing.T) {
	refused := [6]int{}
	for quota := 1; quota < 600; quota += 1 + quota%7 {
		s := sequence(quota)
		d := newDisk(t, quota)
		e, p := opened(t, d), newPlain()
		for _, r := range s.script(50) {
			if fullAs(t, d, e, p, r) {
				refused[r.Op]++
			}
		}
		holds(t, opened(t, d), p)
	}
	if refused[0] < 100 || refused[2] < 20 || refused[3] < 5 {
		t.Error(refused)
	}
}

// A disk of as many files as there may be.
func TestFullOfFiles(t *testing.T) {
	refused := 0
	for files := 55; files <= 64; files++ {
		d := newDisk(t, mostQuota)
		for n := range files {
			d.Append(strings.Repeat("x", 1+n%32)+string(rune('a'+n/32)), "")
		}
		for n := range files {
			// A name of 33 bytes is none; such a file has another one.
			if n%32 == 31 {
				d.Append("y"+string(rune('a'+n/32)), "")
			}
		}
		if len(d.List()) != files {
			t.Fatal(len(d.List()))
		}
		e, p := opened(t, d), newPlain()
		s := sequence(files)
		for _, r := range append([]Request{puts(few()[0]), flushes(), puts(few()[1]), flushes(), merges()}, s.script(30)...) {
			if fullAs(t, d, e, p, r) {
				refused++
			}
		}
	}
	if refused < 10 {
		t.Error(refused)
	}
}

// settled answers a disk on which all lies in segments, and the list.
func settled(t *testing.T, l ...Request) (*vdisk.Disk, *plain) {
	t.Helper()
	d, _, p := after(t, mostQuota, append(l, flushes()))
	for _, name := range d.List() {
		if strings.HasPrefix(name, "log.") {
			t.Fatal(d.List())
		}
	}
	return d, p
}

// turned turns bits of a file, lets be done what there is, and turns them back.
func turned(t *testing.T, d *vdisk.Disk, name string, bits []int, then func()) {
	t.Helper()
	flip := func() {
		for _, bit := range bits {
			if f := d.Flip(name, bit); f != api.OK {
				t.Fatal(name, bit, f)
			}
		}
	}
	flip()
	then()
	flip()
}

// Bits that are turned in one file, all within 32 neighbours, are seen, where all
// lies in segments: one bit, and drawn ones.
func TestFlips(t *testing.T) {
	var l []Request
	for i, r := range few() {
		l = append(l, puts(r))
		if i%2 == 0 {
			l = append(l, flushes())
		}
	}
	for _, row := range [][]Request{l[:1], l, append(l, goes(4)), append(l, merges())} {
		d, p := settled(t, row...)
		corrupt := func() {
			if e, f := Open(d); e != nil || f != api.ErrCorrupt {
				t.Fatal(e, f)
			}
		}
		for _, name := range d.List() {
			text, _ := d.Read(name)
			s := sequence(len(text))
			for bit := range 8 * len(text) {
				turned(t, d, name, []int{bit}, corrupt)
				bits := []int{bit}
				for more := bit + 1; more < min(bit+32, 8*len(text)); more++ {
					if s.below(2) == 0 {
						bits = append(bits, more)
					}
				}
				turned(t, d, name, bits, corrupt)
			}
		}
		holds(t, opened(t, d), p)
	}
}

// A bit that is turned in a log: the changes ahead of that frame are told, and no
// other.
func TestFlipsInLogs(t *testing.T) {
	var ends []int
	lists := []*plain{newPlain()}
	d := newDisk(t, mostQuota)
	e, p := opened(t, d), newPlain()
	for _, r := range few() {
		serves(t, e, p, puts(r))
		ends = append(ends, d.Used())
		lists = append(lists, p.clone())
	}
	for bit := range 8 * d.Used() {
		turned(t, d, "log.0", []int{bit}, func() {
			whole := 0
			for whole < len(ends) && ends[whole] <= bit/8 {
				whole++
			}
			if l := answersOf(opened(t, d)); !slices.Equal(l, lists[whole].answers()) {
				t.Fatal(bit)
			}
		})
	}
	holds(t, opened(t, d), p)
}

// servesAny holds what any bytes are answered against the list, and that what only
// asks changes nothing.
func servesAny(t *testing.T, d *vdisk.Disk, e *Engine, p *plain, s string) {
	t.Helper()
	r, f := Parse(s)
	want := "\x02"
	if f == api.OK {
		want = p.serve(r)
	}
	effects, used := d.Effects(), d.Used()
	if a := e.Serve(s); a != want {
		t.Fatalf("%x: %x, want %x", s, a, want)
	}
	if asking := f != api.OK || r.Op == 1 || r.Op > 3; asking && (d.Effects() != effects || d.Used() != used) {
		t.Fatalf("%x has effects", s)
	}
}

// Any bytes are served: all short ones, drawn ones, and requests with drawn faults.
func TestAnyBytes(t *testing.T) {
	d, e, p := after(t, mostQuota, beginnings()[3])
	servesAny(t, d, e, p, "")
	for a := range 256 {
		servesAny(t, d, e, p, string([]byte{byte(a)}))
		for b := range 256 {
			servesAny(t, d, e, p, string([]byte{byte(a), byte(b)}))
		}
	}
	holds(t, e, p)
	for seed := range 30000 {
		s := sequence(seed)
		var b []byte
		for range s.below(30) {
			b = append(b, byte(s.one(s.below(256), s.below(8))))
		}
		if s.below(2) == 0 {
			b = append([]byte{4, byte(s.below(5)), byte(s.below(5)), 1, byte(s.below(9)), byte(1 + s.below(9)), 8}, b...)
		}
		servesAny(t, d, e, p, string(b))
		c := []byte(bytesOf(s.request()))
		for range s.below(3) {
			c[s.below(len(c))] ^= byte(1 << s.below(8))
		}
		servesAny(t, d, e, p, string(c))
	}
	if d.Used() > mostQuota/2 {
		t.Error(d.Used())
	}
	holds(t, e, p)
	holds(t, opened(t, d), p)
}

// Long bytes are served too.
func TestManyBytes(t *testing.T) {
	d, e, p := after(t, mostQuota, beginnings()[3])
	for _, b := range []string{"\x00", "\x01", "\x02", "\x03", "\x04", "\x05", "\x7f", "\x80", "\xff"} {
		for _, n := range []int{100, 1000, 65536, 1 << 20} {
			servesAny(t, d, e, p, strings.Repeat(b, n))
			servesAny(t, d, e, p, "\x04"+strings.Repeat(b, n))
			servesAny(t, d, e, p, "\x04\x00\x00"+varintsOf(n)+strings.Repeat(b, 2*n)+strings.Repeat("\x00", 8))
			servesAny(t, d, e, p, "\x04\x00\x00\x00"+varintsOf(n)+strings.Repeat(b, n)+strings.Repeat("\x01", 7))
		}
	}
	holds(t, e, p)
}

// Whatever is put is answered just so.
func TestGets(t *testing.T) {
	e, p := engineOf(t)
	for seed := range 2000 {
		s := sequence(seed)
		r := s.record(s.one(s.below(200), mostDoc-s.below(9)))
		if p.serve(puts(r)); e.Serve(bytesOf(puts(r))) == "\x00" {
			exchanges(t, e, exchange{bytesOf(gets(r.Doc)), "\x00" + changeBytes(doc.Change{Record: r})})
		}
	}
	holds(t, e, p)
}
