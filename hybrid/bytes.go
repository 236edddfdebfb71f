package hybrid

import (
	"strings"

	"rankloft/api"
	"rankloft/doc"
	"rankloft/pack"
)

// Print answers a request's bytes: ErrKind, if there is no such Op; layer 10's
// error, if its change isn't right; ErrRange, if a number is below 0 where it
// can't be.
func Print(r Request) (string, api.Errno) {
	if !isWithin(r.Op, 0, ops-1) {
		return "", api.ErrKind
	}
	rest, f := r.rest()
	if f != api.OK {
		return "", f
	}
	return varint(r.Op) + rest, api.OK
}

// Parse answers the request of which s is the bytes: ErrForm, if there is none.
func Parse(s string) (Request, api.Errno) {
	p := pack.New(s)
	r, ok := takeRequest(p)
	if !ok || p.Bad() || p.Left() > 0 {
		return Request{}, api.ErrForm
	}
	return r, api.OK
}

// rest are the bytes behind a request's Op: of what it doesn't ask there are none.
func (r Request) rest() (string, api.Errno) {
	switch r.Op {
	case opChange:
		return doc.Print(r.Change)
	case opGet:
		return varints(r.Doc)
	case opQuery:
		return r.Query.print()
	}
	return "", api.OK
}

// print answers a query's bytes: ErrRange, if one of its numbers but those of the
// vector is below 0.
func (q Query) print() (string, api.Errno) {
	ahead := []int{q.Kind, q.Way, len(q.Terms)}
	for _, t := range q.Terms {
		ahead = append(ahead, t.Term, t.Weight)
	}
	ahead = append(ahead, len(q.V))
	front, f := varints(ahead...)
	if f != api.OK {
		return "", f
	}
	back, f := varints(q.Measure, q.K, q.Depth, q.C, q.A, q.B, q.Tags)
	if f != api.OK {
		return "", f
	}
	return front + zigzags(q.V) + back, api.OK
}

// takeRequest takes a request off a reader; false, if its Op or its change is none.
// Whether all the rest was there the reader tells.
func takeRequest(p *pack.Reader) (Request, bool) {
	r, ok := Request{Op: p.Varint()}, true
	switch r.Op {
	case opChange:
		r.Change, ok = doc.Read(p)
	case opGet:
		r.Doc = p.Varint()
	case opFlush, opMerge, opCount:
	case opQuery:
		r.Query = takeQuery(p)
	default:
		return Request{}, false
	}
	return r, ok
}

// takeQuery takes a query off a reader.
func takeQuery(p *pack.Reader) Query {
	return Query{
		Kind:    p.Varint(),
		Way:     p.Varint(),
		Terms:   row(p, func() api.Term { return api.Term{Term: p.Varint(), Weight: p.Varint()} }),
		V:       row(p, p.Zigzag),
		Measure: p.Varint(),
		K:       p.Varint(),
		Depth:   p.Varint(),
		C:       p.Varint(),
		A:       p.Varint(),
		B:       p.Varint(),
		Tags:    p.Varint(),
	}
}

// row takes off a reader how many there are, and as many.
func row[T any](p *pack.Reader, take func() T) []T {
	var l []T
	// A number of them that can't be there ends with the bytes.
	for n := p.Varint(); len(l) < n && !p.Bad(); {
		l = append(l, take())
	}
	return l
}

// varint answers the bytes of a number that isn't below 0.
func varint(n int) string { return sure(pack.Varint(n)) }

// varints answers the bytes of numbers: ErrRange, if one is below 0.
func varints(l ...int) (string, api.Errno) {
	var b strings.Builder
	for _, n := range l {
		s, f := pack.Varint(n)
		if f != api.OK {
			return "", f
		}
		b.WriteString(s)
	}
	return b.String(), api.OK
}

// zigzags answers the bytes of any numbers.
func zigzags(l []int) string {
	var b strings.Builder
	for _, n := range l {
		b.WriteString(pack.Zigzag(n))
	}
	return b.String()
}
