package store

import (
	"encoding/binary"
	"hash/crc32"
	"maps"
	"reflect"
	"slices"
	"strconv"
	"strings"
	"testing"

	"rankloft/api"
	"rankloft/doc"
	"rankloft/vdisk"
)

const (
	mostDocs  = 256
	mostFiles = 64
	mostQuota = 1 << 20
	roomy     = 1 << 18
)

// sequence is a fixed row of numbers without an order that shows.
type sequence uint64

// below answers a number of 0 to n - 1.
func (q *sequence) below(n int) int {
	*q = *q*6364136223846793005 + 1442695040888963407
	x := uint64(*q)
	return int((x ^ x>>29) % uint64(n))
}

// put answers a change that puts a document, unlike that of another number.
func put(n, tags int) doc.Change {
	return doc.Change{Record: doc.Record{
		Doc:   n,
		Terms: []api.Term{{Term: 1, Weight: 1 + n%1000}, {Term: 300, Weight: 1 + tags}},
		V:     []int{n % 100, -tags % 100, 0, 1, -1, 127, -127, 5},
		Tags:  tags,
	}}
}

// bare answers a change of as few bytes as one that puts a document can have.
func bare(n int) doc.Change {
	return doc.Change{Record: doc.Record{Doc: n, V: make([]int, 8)}}
}

// gone answers the change that takes a document away.
func gone(n int) doc.Change { return doc.Change{Record: doc.Record{Doc: n}, Gone: true} }

// varint answers the bytes of a number.
func varint(n int) string { return string(binary.AppendUvarint(nil, uint64(n))) }

// sealed answers s with its sum.
func sealed(s string) string {
	return string(binary.LittleEndian.AppendUint32([]byte(s), crc32.ChecksumIEEE([]byte(s))))
}

// bytesOf are those of a right change.
func bytesOf(c doc.Change) string {
	if c.Gone {
		return varint(c.Doc) + "\x01"
	}
	b := []byte(varint(c.Doc) + "\x00" + varint(len(c.Terms)))
	ahead := -1
	for _, t := range c.Terms {
		b = binary.AppendUvarint(b, uint64(t.Term-ahead-1))
		ahead = t.Term
	}
	for _, t := range c.Terms {
		b = binary.LittleEndian.AppendUint16(b, uint16(t.Weight))
	}
	for _, n := range c.V {
		b = append(b, byte(n+128))
	}
	return string(append(b, byte(c.Tags)))
}

// framed answers a frame of any bytes.
func framed(s string) string { return varint(len(sealed(s))) + sealed(s) }

// frames are those of changes, one behind the other.
func frames(l ...doc.Change) string {
	var parts []string
	for _, c := range l {
		parts = append(parts, framed(bytesOf(c)))
	}
	return strings.Join(parts, "")
}

// segment answers the bytes of one with these changes.
func segment(l ...doc.Change) string {
	s := varint(len(l))
	for _, c := range l {
		s += bytesOf(c)
	}
	return sealed(s)
}

// manifestBytes are those of one of these numbers.
func manifestBytes(first int, segments ...int) string {
	s := varint(first) + varint(len(segments))
	ahead := -1
	for _, n := range segments {
		s += varint(n - ahead - 1)
		ahead = n
	}
	return sealed(s)
}

func logFile(n int) string     { return "log." + strconv.Itoa(n) }
func segmentFile(n int) string { return "seg." + strconv.Itoa(n) }

// disk answers one of files: name, bytes, name, bytes.
func disk(t *testing.T, quota int, files ...string) *vdisk.Disk {
	t.Helper()
	d, e := vdisk.New(quota)
	if e != api.OK {
		t.Fatal(e)
	}
	for i := 0; i < len(files); i += 2 {
		if d.Append(files[i], files[i+1]) != api.OK || d.Sync(files[i]) != api.OK {
			t.Fatalf("no room for %q", files[i])
		}
	}
	return d
}

// filesOf is what stands on a disk whose power is on: name, bytes, name, bytes,
// by rising names.
func filesOf(t *testing.T, d *vdisk.Disk) []string {
	t.Helper()
	var l []string
	for _, name := range d.List() {
		s, e := d.Read(name)
		if e != api.OK {
			t.Fatal(name, e)
		}
		l = append(l, name, s)
	}
	return l
}

// has holds a disk's files against those that should be.
func has(t *testing.T, d *vdisk.Disk, want ...string) {
	t.Helper()
	if l := filesOf(t, d); !slices.Equal(l, want) {
		t.Fatalf("%q, want %q", l, want)
	}
}

// copied answers a disk with the same files as one that is on.
func copied(t *testing.T, d *vdisk.Disk, quota int) *vdisk.Disk {
	t.Helper()
	return disk(t, quota, filesOf(t, d)...)
}

// opened opens a disk that is on and right, and holds that it isn't written to.
func opened(t *testing.T, d *vdisk.Disk) *Store {
	t.Helper()
	files, effects := filesOf(t, d), d.Effects()
	s, e := Open(d)
	if e != api.OK || s == nil {
		t.Fatalf("error %d, of %q", e, files)
	}
	if d.Effects() != effects || d.Down() {
		t.Fatal("Open wrote something")
	}
	has(t, d, files...)
	return s
}

// errno holds an error against what it should be.
func errno(t *testing.T, name string, e, want api.Errno) {
	t.Helper()
	if e != want {
		t.Fatalf("%s: error %d, want %d", name, e, want)
	}
}

// does makes a store do acts that have no error.
func does(t *testing.T, s *Store, acts ...act) {
	t.Helper()
	for i, a := range acts {
		if e := a.on(s); e != api.OK {
			t.Fatalf("act %d, %s: error %d", i, a, e)
		}
	}
}

// act is a Put of a change, a Flush or a Merge.
type act struct {
	kind   int
	change doc.Change
}

const (
	aPut = iota
	aFlush
	aMerge
)

func puts(c doc.Change) act { return act{kind: aPut, change: c} }
func flushes() act          { return act{kind: aFlush} }
func merges() act           { return act{kind: aMerge} }

func (a act) String() string {
	if a.kind != aPut {
		return []string{"Put", "Flush", "Merge"}[a.kind]
	}
	sign := "+"
	if a.change.Gone {
		sign = "-"
	}
	return sign + strconv.Itoa(a.change.Doc)
}

func (a act) on(s *Store) api.Errno {
	switch a.kind {
	case aPut:
		return s.Put(a.change)
	case aFlush:
		return s.Flush()
	}
	return s.Merge()
}

// told is what a disk tells, by the words.
type told struct {
	first    int
	segments []int
	settled  map[int]doc.Change // documents that the segments leave live
	came     map[int]doc.Change // the last changes that logs tell
	next     int                // the number behind all logs that are told
}

// live are all documents that are.
func (v told) live() map[int]doc.Change {
	m := maps.Clone(v.settled)
	for n, c := range v.came {
		delete(m, n)
		if !c.Gone {
			m[n] = c
		}
	}
	return m
}

// contents are a sealed file's bytes.
func contents(d *vdisk.Disk, name string) (string, bool) {
	s, e := d.Read(name)
	if e != api.OK || len(s) < 4 || sealed(s[:len(s)-4]) != s {
		return "", false
	}
	return s[:len(s)-4], true
}

// cutVarint takes one off the front of s, which must be written as it should.
func cutVarint(s string) (int, string, bool) {
	u, n := binary.Uvarint([]byte(s))
	if n <= 0 || u > 1<<63-1 || varint(int(u)) != s[:n] {
		return 0, "", false
	}
	return int(u), s[n:], true
}

// wholeFrames are the changes that a log tells.
func wholeFrames(s string) []doc.Change {
	var l []doc.Change
	for {
		n, rest, ok := cutVarint(s)
		if !ok || n < 4 || n > len(rest) || sealed(rest[:n-4]) != rest[:n] {
			return l
		}
		c, e := doc.Parse(rest[:n-4])
		if e != api.OK {
			return l
		}
		l, s = append(l, c), rest[n:]
	}
}

// tells answers what a disk that is on and right tells.
func tells(t *testing.T, d *vdisk.Disk) told {
	t.Helper()
	v := told{settled: map[int]doc.Change{}, came: map[int]doc.Change{}}
	if s, ok := contents(d, "man"); ok {
		var count int
		v.first, s, _ = cutVarint(s)
		count, s, _ = cutVarint(s)
		ahead := -1
		for range count {
			var more int
			more, s, _ = cutVarint(s)
			ahead += more + 1
			v.segments = append(v.segments, ahead)
		}
	}
	for _, n := range v.segments {
		s, ok := contents(d, segmentFile(n))
		if !ok {
			t.Fatalf("segment %d is told, and isn't there", n)
		}
		count, s, _ := cutVarint(s)
		for range count {
			c := cutChange(t, &s)
			delete(v.settled, c.Doc)
			if !c.Gone {
				v.settled[c.Doc] = c
			}
		}
	}
	for v.next = v.first; slices.Contains(d.List(), logFile(v.next)); v.next++ {
		s, _ := d.Read(logFile(v.next))
		for _, c := range wholeFrames(s) {
			v.came[c.Doc] = c
		}
	}
	return v
}

// cutChange takes a change off the front of s, the only beginning of s that is one.
func cutChange(t *testing.T, s *string) doc.Change {
	t.Helper()
	for n := range len(*s) + 1 {
		if c, e := doc.Parse((*s)[:n]); e == api.OK {
			*s = (*s)[n:]
			return c
		}
	}
	t.Fatalf("no change: %x", *s)
	return doc.Change{}
}

// plain is a store by the words, on a disk of its own.
type plain struct {
	t    *testing.T
	disk *vdisk.Disk
	log  int
	told told
	lost bool
}

// plainOf answers the one that a disk tells.
func plainOf(t *testing.T, d *vdisk.Disk) *plain {
	t.Helper()
	v := tells(t, d)
	return &plain{t: t, disk: d, log: v.next, told: v}
}

// run does effects up to one that has an error.
func (p *plain) run(effects ...func() api.Errno) api.Errno {
	for _, effect := range effects {
		if e := effect(); e != api.OK {
			p.lost = e == api.ErrDown
			return e
		}
	}
	p.told = tells(p.t, p.disk)
	return api.OK
}

// do does an act.
func (p *plain) do(a act) api.Errno {
	live := p.told.live()
	_, is := live[a.change.Doc]
	switch {
	case a.kind == aPut && doc.Right(a.change) != api.OK:
		return doc.Right(a.change)
	case p.lost:
		return api.ErrDown
	case a.kind == aPut && a.change.Gone && !is:
		return api.ErrNone
	case a.kind == aPut && !a.change.Gone && !is && len(live) >= mostDocs:
		return api.ErrLong
	case a.kind == aPut:
		return p.run(p.written(logFile(p.log), frames(a.change)))
	case a.kind == aFlush && len(p.told.came) == 0, a.kind == aMerge && len(p.told.segments) == 0:
		return api.OK
	}
	next := 0
	for _, n := range p.told.segments {
		next = n + 1
	}
	if a.kind == aMerge {
		return p.swap(p.told.first, []int{next}, p.told.settled)
	}
	e := p.swap(p.told.next, append(slices.Clone(p.told.segments), next), p.told.came)
	if e == api.OK {
		p.log = p.told.first
	}
	return e
}

// written answers what puts bytes behind a file so that they last.
func (p *plain) written(name, s string) func() api.Errno {
	return func() api.Errno {
		if e := p.disk.Append(name, s); e != api.OK {
			return e
		}
		return p.disk.Sync(name)
	}
}

// swap writes the last one of the segments, and a manifest of them.
func (p *plain) swap(first int, segments []int, changes map[int]doc.Change) api.Errno {
	var l []doc.Change
	for _, n := range slices.Sorted(maps.Keys(changes)) {
		l = append(l, changes[n])
	}
	return p.run(
		p.cleared(p.told.first, p.told.segments),
		p.written(segmentFile(segments[len(segments)-1]), segment(l...)),
		p.written("man.new", manifestBytes(first, segments...)),
		func() api.Errno { return p.disk.Rename("man.new", "man") },
		p.cleared(first, segments),
	)
}

// cleared answers what removes what is left over beside such a manifest.
func (p *plain) cleared(first int, segments []int) func() api.Errno {
	return func() api.Errno {
		for _, name := range p.disk.List() {
			if leftOver(name, first, segments) {
				if e := p.disk.Remove(name); e != api.OK {
					return e
				}
			}
		}
		return api.OK
	}
}

// leftOver tells whether to clear removes a file.
func leftOver(name string, first int, segments []int) bool {
	var n int
	var e error
	if len(name) > 4 {
		n, e = strconv.Atoi(name[4:])
	}
	switch {
	case name == "man.new":
		return true
	case len(name) <= 4 || e != nil || strconv.Itoa(n) != name[4:] || n < 0:
		return false
	}
	return name[:4] == "log." && n < first || name[:4] == "seg." && !slices.Contains(segments, n)
}

// alike holds two records against each other; a list without elements is like one
// that is nil.
func alike(a, b doc.Record) bool {
	return doc.Same(doc.Change{Record: a}, doc.Change{Record: b})
}

// holds holds what a store tells against documents and a number of segments.
func holds(t *testing.T, s *Store, segments int, documents map[int]doc.Change) {
	t.Helper()
	want := slices.Sorted(maps.Keys(documents))
	for range 2 {
		if l := s.Docs(); !slices.Equal(l, want) || s.Segments() != segments {
			t.Fatalf("documents %v, %d segments, want %v, %d", l, s.Segments(), want, segments)
		}
	}
	for _, n := range want {
		if r, ok := s.Get(n); !ok || !alike(r, documents[n].Record) {
			t.Fatalf("document %d: %v, %t, want %v", n, r, ok, documents[n])
		}
		for _, n := range []int{n - 1, n + 1, -n - 1, n + 1<<32} {
			if _, is := documents[n]; !is {
				none(t, s, n)
			}
		}
	}
}

// none holds that a store has no such document.
func none(t *testing.T, s *Store, n int) {
	t.Helper()
	if r, ok := s.Get(n); ok || !reflect.DeepEqual(r, doc.Record{}) {
		t.Fatalf("document %d: %v, %t", n, r, ok)
	}
}

// with answers the documents of these changes, one behind the other.
func with(l ...doc.Change) map[int]doc.Change {
	m := map[int]doc.Change{}
	for _, c := range l {
		delete(m, c.Doc)
		if !c.Gone {
			m[c.Doc] = c
		}
	}
	return m
}

// as holds a store against one by the words, and their disks against each other.
func as(t *testing.T, d *vdisk.Disk, s *Store, p *plain) {
	t.Helper()
	if d.Down() != p.disk.Down() || d.Effects() != p.disk.Effects() || d.Used() != p.disk.Used() || !slices.Equal(d.List(), p.disk.List()) {
		t.Fatalf("%t, %d, %d, %q, want %t, %d, %d, %q", d.Down(), d.Effects(), d.Used(), d.List(), p.disk.Down(), p.disk.Effects(), p.disk.Used(), p.disk.List())
	}
	if !d.Down() {
		has(t, d, filesOf(t, p.disk)...)
	}
	if p.lost {
		holds(t, s, 0, nil)
		return
	}
	holds(t, s, len(p.told.segments), p.told.live())
}

// segmentOf answers the bytes of a segment of these documents.
func segmentOf(m map[int]doc.Change) string {
	var l []doc.Change
	for _, n := range slices.Sorted(maps.Keys(m)) {
		l = append(l, m[n])
	}
	return segment(l...)
}
