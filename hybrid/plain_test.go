package hybrid

import (
	"cmp"
	"encoding/binary"
	"hash/crc32"
	"maps"
	"math/big"
	"reflect"
	"slices"
	"testing"

	"rankloft/api"
	"rankloft/doc"
	"rankloft/fuse"
	"rankloft/vdisk"
)

const (
	mostDoc   = 1<<31 - 1
	mostQuota = 1 << 20
	million   = 1000000
)

// sequence is a fixed row of numbers without an order that shows.
type sequence uint64

// below answers a number of 0 to n - 1.
func (s *sequence) below(n int) int {
	*s = *s*6364136223846793005 + 1442695040888963407
	x := uint64(*s)
	return int((x ^ x>>29) % uint64(n))
}

// one answers one of those told.
func (s *sequence) one(l ...int) int { return l[s.below(len(l))] }

// terms answers up to most of them, by rising numbers below 8 and a great one.
func (s *sequence) terms(most int) []api.Term {
	var l []api.Term
	for n := range 8 {
		if len(l) < most && s.below(2) == 0 {
			l = append(l, api.Term{Term: n, Weight: 1 + s.below(5)})
		}
	}
	if len(l) < most && s.below(4) == 0 {
		l = append(l, api.Term{Term: 1<<20 - 1, Weight: s.one(1, 65535)})
	}
	return l
}

// vector answers one, of few different numbers.
func (s *sequence) vector() []int {
	v := make([]int, 8)
	for i := range v {
		v[i] = s.one(0, 0, 0, 1, -1, 2, -7, 127, -127)
	}
	return v
}

// record answers a document's.
func (s *sequence) record(n int) doc.Record {
	return doc.Record{Doc: n, Terms: s.terms(s.one(0, 1, 2, 3, 9)), V: s.vector(), Tags: s.one(0, 1, 2, 3, 128, 255)}
}

// query answers a right one; what its Kind doesn't ask is often what no query may
// have.
func (s *sequence) query() Query {
	q := Query{
		Kind: s.below(4), Way: s.below(4), Terms: s.terms(9), V: s.vector(), Measure: s.below(2),
		K: s.one(1, 2, 3, 5, 10, 40, 1000), Depth: s.one(1, 2, 3, 5, 10, 40, 1000),
		C: s.one(1, 2, 60, million), A: s.one(0, 1, 2, 3, million), B: s.one(0, 1, 2, 5, million), Tags: s.one(0, 0, 0, 1, 2, 3, 64),
	}
	if q.A == 0 && q.B == 0 {
		q.A = 1
	}
	if s.below(3) == 0 {
		q = q.spoiled(s.one(0, million+1, 1<<62))
	}
	return q
}

// spoiled answers a query in which all that its Kind doesn't ask is out of its
// range.
func (q Query) spoiled(n int) Query {
	if q.Kind != 2 {
		q.C = n
	}
	if q.Kind != 3 {
		q.A, q.B = n, n
	}
	switch q.Kind {
	case 0:
		q.V, q.Measure, q.Depth = []int{n}, n, n
	case 1:
		q.Way, q.Terms, q.Depth = n, make([]api.Term, 99), n
	}
	return q
}

// vec answers a vector that begins with these numbers.
func vec(l ...int) []int { return append(l, make([]int, 8-len(l))...) }

// terms answers those of numbers and weights.
func terms(l ...int) []api.Term {
	var to []api.Term
	for i := 0; i < len(l); i += 2 {
		to = append(to, api.Term{Term: l[i], Weight: l[i+1]})
	}
	return to
}

// rising answers n terms from first on.
func rising(first, n int) []api.Term {
	var l []api.Term
	for i := range n {
		l = append(l, api.Term{Term: first + i, Weight: 1 + i})
	}
	return l
}

// The requests.

func puts(r doc.Record) Request { return Request{Change: doc.Change{Record: r}} }
func goes(n int) Request {
	return Request{Change: doc.Change{Record: doc.Record{Doc: n}, Gone: true}}
}
func gets(n int) Request   { return Request{Op: 1, Doc: n} }
func flushes() Request     { return Request{Op: 2} }
func merges() Request      { return Request{Op: 3} }
func asks(q Query) Request { return Request{Op: 4, Query: q} }
func counts() Request      { return Request{Op: 5} }

// varintsOf answers the bytes of numbers.
func varintsOf(l ...int) string {
	var b []byte
	for _, n := range l {
		b = binary.AppendUvarint(b, uint64(n))
	}
	return string(b)
}

// zigzagsOf answers the bytes of numbers that may be below 0.
func zigzagsOf(l ...int) string {
	var b []byte
	for _, n := range l {
		b = binary.AppendVarint(b, int64(n))
	}
	return string(b)
}

// changeBytes are those of a right change.
func changeBytes(c doc.Change) string {
	if c.Gone {
		return varintsOf(c.Doc, 1)
	}
	b := []byte(varintsOf(c.Doc, 0, len(c.Terms)))
	ahead := -1
	for _, t := range c.Terms {
		b = binary.AppendUvarint(b, uint64(t.Term-ahead-1))
		ahead = t.Term
	}
	for _, t := range c.Terms {
		b = binary.LittleEndian.AppendUint16(b, uint16(t.Weight))
	}
	for _, n := range c.V {
		b = append(b, byte(n+128))
	}
	return string(append(b, byte(c.Tags)))
}

// bytesOf are those of a request.
func bytesOf(r Request) string {
	s := varintsOf(r.Op)
	switch r.Op {
	case 0:
		return s + changeBytes(r.Change)
	case 1:
		return s + varintsOf(r.Doc)
	case 4:
		q := r.Query
		s += varintsOf(q.Kind, q.Way, len(q.Terms))
		for _, t := range q.Terms {
			s += varintsOf(t.Term, t.Weight)
		}
		return s + varintsOf(len(q.V)) + zigzagsOf(q.V...) + varintsOf(q.Measure, q.K, q.Depth, q.C, q.A, q.B, q.Tags)
	}
	return s
}

// sealed answers s with its sum.
func sealed(s string) string {
	return string(binary.LittleEndian.AppendUint32([]byte(s), crc32.ChecksumIEEE([]byte(s))))
}

// plain is a list of documents that answers by the words.
type plain struct {
	docs     map[int]doc.Record
	came     map[int]bool // changed since the last flush
	segments int
}

func newPlain() *plain { return &plain{docs: map[int]doc.Record{}, came: map[int]bool{}} }

func (p *plain) clone() *plain {
	return &plain{docs: maps.Clone(p.docs), came: maps.Clone(p.came), segments: p.segments}
}

// numbers are those of all documents, rising.
func (p *plain) numbers() []int { return slices.Sorted(maps.Keys(p.docs)) }

// serve does a request, and answers the answer's bytes.
func (p *plain) serve(r Request) string {
	switch r.Op {
	case 0:
		return varintsOf(int(p.put(r.Change)))
	case 1:
		d, ok := p.docs[r.Doc]
		if !ok {
			return "\x04"
		}
		return "\x00" + changeBytes(doc.Change{Record: d})
	case 2:
		if len(p.came) > 0 {
			p.segments++
		}
		clear(p.came)
	case 3:
		p.segments = min(p.segments, 1)
	case 4:
		return valueBytes(p.ask(r.Query))
	case 5:
		return "\x00" + varintsOf(len(p.docs), p.segments)
	}
	return "\x00"
}

// put does a right change.
func (p *plain) put(c doc.Change) api.Errno {
	_, live := p.docs[c.Doc]
	switch {
	case c.Gone && !live:
		return api.ErrNone
	case !c.Gone && !live && len(p.docs) >= 256:
		return api.ErrLong
	}
	p.came[c.Doc] = true
	delete(p.docs, c.Doc)
	if !c.Gone {
		p.docs[c.Doc] = c.Record
	}
	return api.OK
}

// valueBytes are those of the answer to a query.
func valueBytes(l []fuse.Value, f api.Errno) string {
	if f != api.OK {
		return varintsOf(int(f))
	}
	s := varintsOf(0, len(l))
	for _, v := range l {
		s += varintsOf(v.Doc) + zigzagsOf(int(v.Value.Num), int(v.Value.Den))
	}
	return s
}

// wrong tells why a query isn't answered.
func wrong(q Query) api.Errno {
	byTerms, byVector := q.Kind != 1, q.Kind != 0
	out := func(asked bool, n, least, most int) bool { return asked && (n < least || n > most) }
	if out(true, q.Kind, 0, 3) || out(byTerms, q.Way, 0, 3) {
		return api.ErrKind
	}
	if byTerms && len(q.Terms) > 64 {
		return api.ErrLong
	}
	far, falls := false, false
	for i, t := range q.Terms {
		for _, u := range q.Terms[:i] {
			if byTerms && t.Term == u.Term {
				return api.ErrTwice
			}
			falls = falls || byTerms && u.Term > t.Term
		}
		far = far || out(byTerms, t.Term, 0, 1<<20-1) || out(byTerms, t.Weight, 1, 65535)
	}
	if far || out(byVector, q.Measure, 0, 1) || out(true, q.K, 1, 1000) || out(q.Kind > 1, q.Depth, 1, 1000) || out(q.Kind == 2, q.C, 1, million) ||
		out(q.Kind == 3, q.A, 0, million) || out(q.Kind == 3, q.B, 0, million) || q.Kind == 3 && q.A == 0 && q.B == 0 || out(true, q.Tags, 0, 255) {
		return api.ErrRange
	}
	none := len(q.V) != 8
	for _, n := range q.V {
		none = none || out(true, n, -127, 127)
	}
	if falls || byVector && none {
		return api.ErrForm
	}
	return api.OK
}

// scores are those of a document for a query.
type scores struct {
	doc               int
	has               bool // one of the terms
	byTerms, byVector int64
}

// scoresOf scores a document, as far as it is asked.
func scoresOf(q Query, d doc.Record) scores {
	s := scores{doc: d.Doc}
	for _, t := range q.Terms {
		for _, u := range d.Terms {
			if q.Kind != 1 && t.Term == u.Term {
				s.has = true
				s.byTerms += int64(t.Weight) * int64(u.Weight)
			}
		}
	}
	for i := range d.V {
		if q.Kind == 0 {
			break
		}
		a, b := int64(q.V[i]), int64(d.V[i])
		if q.Measure == 0 {
			s.byVector += a * b
		} else {
			s.byVector -= (a - b) * (a - b)
		}
	}
	return s
}

// valued is a document with its value.
type valued struct {
	doc   int
	value *big.Rat
}

// first answers the n best of values, the best one first.
func first(n int, l []valued) []valued {
	slices.SortFunc(l, func(a, b valued) int { return cmp.Or(b.value.Cmp(a.value), cmp.Compare(a.doc, b.doc)) })
	return l[:min(n, len(l))]
}

// ask answers a query.
func (p *plain) ask(q Query) ([]fuse.Value, api.Errno) {
	if f := wrong(q); f != api.OK {
		return nil, f
	}
	all := map[int]scores{}
	var sparse, dense []valued
	for n, d := range p.docs {
		if d.Tags|q.Tags != d.Tags {
			continue
		}
		s := scoresOf(q, d)
		all[n] = s
		if s.has {
			sparse = append(sparse, valued{n, big.NewRat(s.byTerms, 1)})
		}
		dense = append(dense, valued{n, big.NewRat(s.byVector, 1)})
	}
	switch q.Kind {
	case 0:
		return valuesOf(first(q.K, sparse)), api.OK
	case 1:
		return valuesOf(first(q.K, dense)), api.OK
	}
	return valuesOf(first(q.K, fused(q, first(q.Depth, sparse), first(q.Depth, dense), all))), api.OK
}

// fused answers the documents of two lists with their values.
func fused(q Query, sparse, dense []valued, all map[int]scores) []valued {
	sums := map[int]*big.Rat{}
	for _, l := range [][]valued{sparse, dense} {
		for i, x := range l {
			if sums[x.doc] == nil {
				sums[x.doc] = new(big.Rat)
			}
			if q.Kind == 2 {
				sums[x.doc].Add(sums[x.doc], big.NewRat(1, int64(q.C+i+1)))
			}
		}
	}
	var l []valued
	for n, sum := range sums {
		if q.Kind == 3 {
			sum.SetInt64(int64(q.A)*all[n].byTerms + int64(q.B)*all[n].byVector)
		}
		l = append(l, valued{n, sum})
	}
	return l
}

// valuesOf answers them as layer 8's.
func valuesOf(l []valued) []fuse.Value {
	var to []fuse.Value
	for _, x := range l {
		to = append(to, fuse.Value{Doc: x.doc, Value: api.Ratio{Num: x.value.Num().Int64(), Den: x.value.Denom().Int64()}})
	}
	return to
}

// newDisk answers an empty one.
func newDisk(t *testing.T, quota int) *vdisk.Disk {
	t.Helper()
	d, f := vdisk.New(quota)
	if f != api.OK {
		t.Fatal(f)
	}
	return d
}

// opened opens a disk that is right.
func opened(t *testing.T, d *vdisk.Disk) *Engine {
	t.Helper()
	e, f := Open(d)
	if e == nil || f != api.OK {
		t.Fatalf("error %d", f)
	}
	return e
}

// engineOf answers an engine with these documents, and the list of them.
func engineOf(t *testing.T, l ...doc.Record) (*Engine, *plain) {
	t.Helper()
	e, p := opened(t, newDisk(t, mostQuota)), newPlain()
	for _, d := range l {
		serves(t, e, p, puts(d))
	}
	return e, p
}

// serves holds an engine's answer against that of the list.
func serves(t *testing.T, e *Engine, p *plain, r Request) {
	t.Helper()
	want := p.serve(r)
	if s := e.Serve(bytesOf(r)); s != want {
		t.Fatalf("%+v: %x, want %x", r, s, want)
	}
}

// asksAs holds what Ask answers against the list.
func asksAs(t *testing.T, e *Engine, p *plain, q Query) {
	t.Helper()
	want, no := p.ask(q)
	l, f := e.Ask(q)
	if f != no || !slices.Equal(l, want) {
		t.Fatalf("%+v: %v, error %d, want %v, %d", q, l, f, want, no)
	}
}

// finds holds what Ask answers against values: document, numerator, denominator.
func finds(t *testing.T, e *Engine, q Query, want ...int) {
	t.Helper()
	var values []fuse.Value
	for i := 0; i < len(want); i += 3 {
		values = append(values, fuse.Value{Doc: want[i], Value: api.Ratio{Num: int64(want[i+1]), Den: int64(want[i+2])}})
	}
	for way := range 4 {
		q.Way = way
		if l, f := e.Ask(q); f != api.OK || !slices.Equal(l, values) {
			t.Errorf("%+v: %v, error %d, want %v", q, l, f, values)
		}
	}
}

// refuses holds that Ask answers an error, and nothing else.
func refuses(t *testing.T, e *Engine, q Query, want api.Errno) {
	t.Helper()
	if l, f := e.Ask(q); f != want || len(l) != 0 {
		t.Errorf("%+v: %v, error %d, want %d", q, l, f, want)
	}
}

// battery are requests that only ask: of the documents below 12 and a few more.
func battery() []Request {
	l := []Request{counts(), gets(mostDoc), gets(1 << 62)}
	for n := range 12 {
		l = append(l, gets(n))
	}
	s := sequence(7)
	for range 24 {
		l = append(l, asks(s.query()))
	}
	return append(l, asks(Query{}), asks(Query{Kind: 9}))
}

// holds holds an engine against a list, by all that may be asked.
func holds(t *testing.T, e *Engine, p *plain) {
	t.Helper()
	for _, r := range battery() {
		serves(t, e, p, r)
	}
	if l := e.Docs(); !slices.Equal(l, p.numbers()) {
		t.Fatalf("documents %v, want %v", l, p.numbers())
	}
}

// same tells whether two requests are, a list without elements like one that is
// nil.
func same(a, b Request) bool {
	if !doc.Same(a.Change, b.Change) || !slices.Equal(a.Query.Terms, b.Query.Terms) || !slices.Equal(a.Query.V, b.Query.V) {
		return false
	}
	a.Change, b.Change = doc.Change{}, doc.Change{}
	a.Query.Terms, a.Query.V, b.Query.Terms, b.Query.V = nil, nil, nil, nil
	return reflect.DeepEqual(a, b)
}
