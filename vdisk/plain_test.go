package vdisk

import (
	"slices"
	"strings"
	"testing"

	"rankloft/api"
)

// sequence is a fixed row of numbers without an order that shows.
type sequence uint64

// below answers a number of 0 to n - 1.
func (q *sequence) below(n int) int {
	*q = *q*6364136223846793005 + 1442695040888963407
	x := uint64(*q)
	return int((x ^ x>>29) % uint64(n))
}

// plainFile is a file by the words: what is synced of it, and what waits.
type plainFile struct{ name, synced, tail string }

// plain is a disk by the words.
type plain struct {
	quota   int
	files   []plainFile
	off     bool
	armed   bool
	left    int // effects up to the one that isn't done, with it
	keep    int
	effects int
}

// at answers where a file stands; -1, if there is none.
func (p *plain) at(name string) int {
	return slices.IndexFunc(p.files, func(f plainFile) bool { return f.name == name })
}

func (p *plain) used() int {
	n := 0
	for _, f := range p.files {
		n += len(f.synced + f.tail)
	}
	return n
}

// fail lets the power fail.
func (p *plain) fail(keep int) {
	for i, f := range p.files {
		keep := max(0, min(keep, len(f.tail)))
		p.files[i] = plainFile{name: f.name, synced: f.synced + f.tail[:keep]}
	}
	p.off, p.armed = true, false
}

// cut tells whether the power fails ahead of an effect, which is counted.
func (p *plain) cut() bool {
	p.left--
	if p.armed && p.left == 0 {
		return true
	}
	p.effects++
	return false
}

// call is one of a disk's, by its kind, with what it is handed.
type call struct {
	kind     int
	name, to string
	n, keep  int
}

// The kinds of calls.
const (
	doAppend = iota
	doSync
	doRename
	doRemove
	doRead
	doFlip
	doArm
	doCrash
	doStart
	kinds
)

// bytesOf are those that a call appends.
func (c call) bytesOf() string { return strings.Repeat(c.to, c.n) }

// check answers the error that a call has ahead of what it does.
func (p *plain) check(c call) api.Errno {
	there, right := p.at(c.name) >= 0, func(s string) bool { return s != "" && len(s) <= mostName }
	switch {
	case p.off && c.kind <= doRead:
		return api.ErrDown
	case c.kind == doAppend && !right(c.name):
		return api.ErrForm
	case c.kind == doAppend && (!there && len(p.files) == mostFiles || p.used()+len(c.bytesOf()) > p.quota):
		return api.ErrFull
	case c.kind > doAppend && c.kind <= doFlip && !there:
		return api.ErrNone
	case c.kind == doRename && !right(c.to):
		return api.ErrForm
	case c.kind == doFlip && (c.n < 0 || c.n >= 8*len(p.files[p.at(c.name)].synced+p.files[p.at(c.name)].tail)):
		return api.ErrRange
	}
	return api.OK
}

// do does a call by the words.
func (p *plain) do(c call) (string, api.Errno) {
	if e := p.check(c); e != api.OK {
		return "", e
	}
	if c.kind == doAppend && p.at(c.name) < 0 {
		p.files = append(p.files, plainFile{name: c.name})
	}
	if c.kind == doAppend {
		p.files[p.at(c.name)].tail += c.bytesOf()
	}
	if c.kind <= doRemove && p.cut() {
		p.fail(p.keep)
		return "", api.ErrDown
	}
	switch c.kind {
	case doSync:
		f := &p.files[p.at(c.name)]
		*f = plainFile{name: c.name, synced: f.synced + f.tail}
	case doRename:
		f := p.files[p.at(c.name)]
		f.name = c.to
		p.files = slices.DeleteFunc(p.files, func(f plainFile) bool { return f.name == c.name || f.name == c.to })
		p.files = append(p.files, f)
	case doRemove:
		p.files = slices.Delete(p.files, p.at(c.name), p.at(c.name)+1)
	case doRead:
		return p.files[p.at(c.name)].synced + p.files[p.at(c.name)].tail, api.OK
	case doFlip:
		p.flip(c.name, c.n)
	case doArm:
		p.armed, p.left, p.keep = c.n > 0, c.n, c.keep
	case doCrash:
		if !p.off {
			p.fail(c.keep)
		}
	case doStart:
		p.off = false
	}
	return "", api.OK
}

// flip turns a bit that there is.
func (p *plain) flip(name string, bit int) {
	f := &p.files[p.at(name)]
	whole := []byte(f.synced + f.tail)
	whole[bit/8] ^= byte(1 << (bit % 8))
	f.synced, f.tail = string(whole[:len(f.synced)]), string(whole[len(f.synced):])
}

// names answers all, rising.
func (p *plain) names() []string {
	var l []string
	for _, f := range p.files {
		l = append(l, f.name)
	}
	slices.Sort(l)
	return l
}

// on makes a call of a disk.
func (c call) on(d *Disk) (string, api.Errno) {
	switch c.kind {
	case doAppend:
		return "", d.Append(c.name, c.bytesOf())
	case doSync:
		return "", d.Sync(c.name)
	case doRename:
		return "", d.Rename(c.name, c.to)
	case doRemove:
		return "", d.Remove(c.name)
	case doRead:
		return d.Read(c.name)
	case doFlip:
		return "", d.Flip(c.name, c.n)
	case doArm:
		d.Arm(api.Cut{At: c.n, Keep: c.keep})
	case doCrash:
		d.Crash(c.keep)
	case doStart:
		d.Start()
	}
	return "", api.OK
}

// call answers one; those that let the power fail come seldom.
func (q *sequence) call(of int) call {
	name := func() string {
		if q.below(40) == 0 {
			return []string{"", strings.Repeat("n", mostName+1)}[q.below(2)]
		}
		return strings.Repeat("n", 1+q.below(3)) + string(rune('a'+q.below(of)))
	}
	c := call{kind: q.below(kinds), name: name(), to: name(), n: q.below(12) - 1, keep: q.below(9) - 2}
	if c.kind == doAppend {
		c.n = max(0, c.n)
	}
	if c.kind == doFlip {
		c.n = q.below(80) - 3
	}
	if c.kind == doCrash && q.below(6) > 0 || c.kind == doRemove && q.below(3) > 0 {
		c.kind = doAppend
		c.n = 1
	}
	return c
}

// calls answers a row of them.
func (q *sequence) calls(n, of int) []call {
	l := make([]call, n)
	for i := range l {
		l[i] = q.call(of)
	}
	return l
}

// as holds a disk against one by the words.
func as(t *testing.T, i int, c call, d *Disk, p *plain) {
	t.Helper()
	if l := d.List(); !slices.Equal(l, p.names()) || d.Used() != p.used() || d.Effects() != p.effects || d.Down() != p.off {
		t.Fatalf("%d: behind %+v: %q, %d, %d, %t, want %q, %d, %d, %t", i, c, l, d.Used(), d.Effects(), d.Down(), p.names(), p.used(), p.effects, p.off)
	}
	for _, f := range p.files {
		s, e := d.Read(f.name)
		if p.off && (s != "" || e != api.ErrDown) || !p.off && (s != f.synced+f.tail || e != api.OK) {
			t.Fatalf("%d: behind %+v: %q is %q, %d, want %+v", i, c, f.name, s, e, f)
		}
	}
}

func TestAsPlain(t *testing.T) {
	for seed := range 300 {
		q := sequence(seed)
		of, quota := []int{1, 3, 8, 60}[seed%4], []int{5, 60, 400, 3000, mostQuota}[seed%5]
		d, p := made(t, quota), &plain{quota: quota}
		for i, c := range q.calls(400, of) {
			s, e := c.on(d)
			wantS, want := p.do(c)
			if s != wantS || e != want {
				t.Fatalf("%d: %+v: %q, %d, want %q, %d", i, c, s, e, wantS, want)
			}
			as(t, i, c, d, p)
		}
	}
}

// The same calls again answer the same, whatever other disks do in between.
func TestTheSameAgain(t *testing.T) {
	for seed := range 60 {
		q := sequence(seed)
		l := q.calls(300, 20)
		a, b, other := made(t, 200), made(t, 200), made(t, 50)
		for i, c := range l {
			s, e := c.on(a)
			l[len(l)-1-i].on(other)
			again, f := c.on(b)
			if s != again || e != f || !slices.Equal(a.List(), b.List()) || a.Used() != b.Used() || a.Effects() != b.Effects() || a.Down() != b.Down() {
				t.Fatalf("%d: %+v: %q, %d; %q, %d", i, c, s, e, again, f)
			}
		}
		a.Start()
		b.Start()
		if !slices.Equal(files(t, a), files(t, b)) {
			t.Fatal(files(t, a), files(t, b))
		}
	}
}

// A row of effects without errors, of which each in turn is cut off.
func cutOff() []call {
	return []call{
		{kind: doAppend, name: "a", to: "ab", n: 2}, {kind: doSync, name: "a"}, {kind: doAppend, name: "a", to: "c", n: 5},
		{kind: doAppend, name: "b", to: "xyz", n: 2}, {kind: doRename, name: "a", to: "c"}, {kind: doAppend, name: "b", to: "!", n: 1},
		{kind: doSync, name: "b"}, {kind: doAppend, name: "new", to: "12345", n: 1}, {kind: doSync, name: "new"}, {kind: doRename, name: "new", to: "b"},
		{kind: doAppend, name: "b", to: "6", n: 3}, {kind: doAppend, name: "c", to: "", n: 0}, {kind: doSync, name: "c"}, {kind: doRemove, name: "b"},
		{kind: doAppend, name: "b", to: "z", n: 4}, {kind: doSync, name: "b"}, {kind: doRename, name: "b", to: "b"}, {kind: doRemove, name: "c"},
	}
}

// Whatever fails, what was synced of the files lasts: all of it, as their first
// bytes; behind them comes only what was appended.
func TestSyncedLasts(t *testing.T) {
	l := cutOff()
	for at := 1; at <= len(l)+1; at++ {
		for keep := -1; keep < 8; keep++ {
			d, p := made(t, 100), &plain{quota: 100}
			d.Arm(api.Cut{At: at, Keep: keep})
			for i, c := range l[:min(at, len(l))] {
				want := api.OK
				if i+1 == at {
					want = api.ErrDown
				} else {
					p.do(c)
				}
				if _, e := c.on(d); e != want {
					t.Fatal(at, keep, i, e)
				}
			}
			failed(d, keep)
			done(t, d, at-1)
			lasted(t, d, p)
		}
	}
}

// lasted holds that each file of p, as it was ahead of what failed, has at least
// its synced bytes on d, and that d has no others, but a new one's.
func lasted(t *testing.T, d *Disk, p *plain) {
	t.Helper()
	for _, f := range p.files {
		s, e := d.Read(f.name)
		if e != api.OK || !strings.HasPrefix(s, f.synced) {
			t.Fatalf("%+v: %q, %d", f, s, e)
		}
		waited := s[len(f.synced):]
		if !strings.HasPrefix(f.tail, waited) && !strings.HasPrefix(waited, f.tail) {
			t.Fatalf("%+v: %q", f, s)
		}
	}
	if n := len(d.List()); n != len(p.files) && n != len(p.files)+1 {
		t.Fatal(d.List(), p.names())
	}
}

// The same of rows of any calls, with a failure behind each.
func TestSyncedLastsOfAny(t *testing.T) {
	for seed := range 40 {
		q := sequence(1000 + seed)
		l := q.calls(60, 3)
		for n := range l {
			d, p := made(t, 100), &plain{quota: 100}
			for _, c := range l[:n] {
				c.on(d)
				p.do(c)
			}
			failed(d, q.below(4)-1)
			lasted(t, d, p)
		}
	}
}
