package doc

import (
	"rankloft/api"
	"rankloft/pack"
)

// What the bytes tell behind a change's Doc.
const (
	isThere = 0
	isGone  = 1
)

const (
	weightBits = 16
	numberBits = 8
	tagsBits   = 8
	// Packed numbers have no sign, and a vector's do: each is told with so much
	// more.
	shift = 128
)

// Print answers a change's bytes: Right's error, if it is none.
func Print(c Change) (string, api.Errno) {
	if e := Right(c); e != api.OK {
		return "", e
	}
	number := sure(pack.Varint(c.Doc))
	if c.Gone {
		return number + sure(pack.Varint(isGone)), api.OK
	}
	return number + sure(pack.Varint(isThere)) + contents(c.Record), api.OK
}

// Read takes a change off a reader's front, and tells whether one was there.
func Read(r *pack.Reader) (Change, bool) {
	c, ok := take(r)
	if !ok || r.Bad() || Right(c) != api.OK {
		return Change{}, false
	}
	return c, true
}

// Parse answers the change of which s is the bytes: ErrForm, if there is none.
func Parse(s string) (Change, api.Errno) {
	r := pack.New(s)
	c, ok := Read(r)
	if !ok || r.Left() > 0 {
		return Change{}, api.ErrForm
	}
	return c, api.OK
}

// sure answers what layer 2 wrote of a right change, of which it refuses nothing.
func sure(s string, _ api.Errno) string { return s }

// each asks all of l in order.
func each[T any](l []T, ask func(T) int) []int {
	answers := make([]int, len(l))
	for i, x := range l {
		answers[i] = ask(x)
	}
	return answers
}

// contents are the bytes of what a document has beside its number.
func contents(d Record) string {
	terms := each(d.Terms, func(t api.Term) int { return t.Term })
	weights := each(d.Terms, func(t api.Term) int { return t.Weight })
	v := each(d.V, func(n int) int { return n + shift })
	return sure(pack.Rising(terms)) + sure(pack.Fixed(weightBits, weights)) +
		sure(pack.Fixed(numberBits, v)) + sure(pack.Fixed(tagsBits, []int{d.Tags}))
}

// take takes off a reader what a change would have, right or not; false, if the
// bytes tell neither that it is there nor that it is gone.
func take(r *pack.Reader) (Change, bool) {
	var c Change
	c.Doc = r.Varint()
	switch r.Varint() {
	case isThere:
		c.Terms, c.V, c.Tags = takeTerms(r), takeVector(r), takeTags(r)
	case isGone:
		c.Gone = true
	default:
		return Change{}, false
	}
	return c, true
}

// takeTerms takes terms with their weights off a reader; none, if it is bad then.
func takeTerms(r *pack.Reader) []api.Term {
	var terms []api.Term
	numbers := r.Rising(api.MaxTerms)
	for i, weight := range r.Fixed(weightBits, len(numbers)) {
		terms = append(terms, api.Term{Term: numbers[i], Weight: weight})
	}
	return terms
}

// takeVector takes a vector's numbers off a reader; none, if it is bad then.
func takeVector(r *pack.Reader) []int {
	return each(r.Fixed(numberBits, api.Dims), func(n int) int { return n - shift })
}

// takeTags takes tags off a reader; 0, if it is bad then.
func takeTags(r *pack.Reader) int {
	l := r.Fixed(tagsBits, 1)
	if len(l) == 0 {
		return 0
	}
	return l[0]
}
