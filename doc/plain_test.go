package doc

import (
	"encoding/binary"
	"reflect"
	"slices"

	"rankloft/api"
)

const (
	mostDoc    = 1<<31 - 1
	mostTerm   = 1<<20 - 1
	mostWeight = 65535
	mostTerms  = 64
	dims       = 8
	size       = 127
	allTags    = 255
)

// sequence is a fixed row of numbers without an order that shows.
type sequence uint64

// below answers a number of 0 to n - 1.
func (q *sequence) below(n int) int {
	*q = *q*6364136223846793005 + 1442695040888963407
	x := uint64(*q)
	return int((x ^ x>>29) % uint64(n))
}

// upTo answers a number of 0 to most, small ones as often as great ones.
func (q *sequence) upTo(most int) int {
	return q.below(most+1) >> q.below(32)
}

// terms answers n of them by rising numbers.
func (q *sequence) terms(n int) []api.Term {
	var l []api.Term
	for len(l) < n {
		number := q.upTo(mostTerm)
		if !slices.ContainsFunc(l, func(t api.Term) bool { return t.Term == number }) {
			l = append(l, api.Term{Term: number, Weight: max(1, q.upTo(mostWeight))})
		}
	}
	slices.SortFunc(l, func(a, b api.Term) int { return a.Term - b.Term })
	return l
}

// vector answers one.
func (q *sequence) vector() []int {
	v := make([]int, dims)
	for i := range v {
		v[i] = q.below(2*size+1) - size
	}
	return v
}

// change answers a right one, seldom one that is Gone.
func (q *sequence) change() Change {
	if q.below(8) == 0 {
		return gone(q.upTo(mostDoc))
	}
	return Change{Record: Record{Doc: q.upTo(mostDoc), Terms: q.terms(q.upTo(mostTerms)), V: q.vector(), Tags: q.below(allTags + 1)}}
}

// gone answers the change that takes a document away.
func gone(number int) Change { return Change{Record: Record{Doc: number}, Gone: true} }

// all answers the vector of one number.
func all(n int) []int { return slices.Repeat([]int{n}, dims) }

// with answers l with another one at a place.
func with[T any](l []T, at int, x T) []T {
	m := slices.Clone(l)
	m[at] = x
	return m
}

// row answers n terms by rising numbers, from first on.
func row(first, n int) []api.Term {
	var l []api.Term
	for i := range n {
		l = append(l, api.Term{Term: first + i, Weight: 1 + i})
	}
	return l
}

// put answers the change that puts a document of noughts with these terms.
func put(terms ...api.Term) Change {
	return Change{Record: Record{Terms: terms, V: all(0)}}
}

// alter answers the change with something done to a copy of it.
func alter(c Change, do func(*Change)) Change {
	c = clone(c)
	do(&c)
	return c
}

// clone answers the change in memory of its own.
func clone(c Change) Change {
	c.Terms, c.V = slices.Clone(c.Terms), slices.Clone(c.V)
	return c
}

// rights are changes of each kind that is right.
func rights() []Change {
	some := Change{Record: Record{Doc: 300, Terms: []api.Term{{Term: 1, Weight: 258}, {Term: 3, Weight: 1}}, V: []int{0, 1, -1, size, -size, 0, 0, 0}, Tags: allTags}}
	l := []Change{
		some,
		put(),
		put(api.Term{Term: 0, Weight: 1}),
		put(api.Term{Term: mostTerm, Weight: mostWeight}),
		put(api.Term{Term: 0, Weight: mostWeight}, api.Term{Term: mostTerm, Weight: 1}),
		put(row(0, mostTerms-1)...),
		put(row(0, mostTerms)...),
		put(row(mostTerm-mostTerms+1, mostTerms)...),
		gone(0), gone(1), gone(5), gone(127), gone(128), gone(mostDoc - 1), gone(mostDoc),
	}
	for _, n := range []int{0, 1, 127, 128, mostDoc - 1, mostDoc} {
		l = append(l, alter(some, func(c *Change) { c.Doc = n }))
	}
	for tags := range allTags + 1 {
		l = append(l, alter(some, func(c *Change) { c.Tags = tags }))
	}
	for n := -size; n <= size; n++ {
		l = append(l, alter(some, func(c *Change) { c.V = all(n) }), alter(some, func(c *Change) { c.V[5] = n }))
	}
	for _, n := range []int{1, 255, 256, mostWeight - 1, mostWeight} {
		l = append(l, put(api.Term{Term: 9, Weight: n}), put(api.Term{Term: 9, Weight: 7}, api.Term{Term: 10, Weight: n}))
	}
	q := sequence(1)
	for n := range mostTerms + 1 {
		l = append(l, put(q.terms(n)...))
	}
	for range 500 {
		l = append(l, q.change())
	}
	return l
}

// isWrong tells by the words what the error of a change is.
func isWrong(c Change) api.Errno {
	out := c.Doc < 0 || c.Doc > mostDoc || c.Tags < 0 || c.Tags > allTags
	twice, falls := false, false
	for i, t := range c.Terms {
		out = out || t.Term < 0 || t.Term > mostTerm || t.Weight < 1 || t.Weight > mostWeight
		for _, u := range c.Terms[:i] {
			twice = twice || u.Term == t.Term
			falls = falls || u.Term > t.Term
		}
	}
	vector := len(c.V) == dims
	for _, n := range c.V {
		vector = vector && n >= -size && n <= size
	}
	switch {
	case out:
		return api.ErrRange
	case len(c.Terms) > mostTerms:
		return api.ErrLong
	case twice:
		return api.ErrTwice
	case falls, !c.Gone && !vector, c.Gone && len(c.Terms)+len(c.V)+c.Tags > 0:
		return api.ErrForm
	}
	return api.OK
}

// bytesOf are those of a right change by the words.
func bytesOf(c Change) string {
	b := binary.AppendUvarint(nil, uint64(c.Doc))
	if c.Gone {
		return string(append(b, 1))
	}
	b = append(b, 0, byte(len(c.Terms)))
	ahead := -1
	for _, t := range c.Terms {
		b = binary.AppendUvarint(b, uint64(t.Term-ahead-1))
		ahead = t.Term
	}
	for _, t := range c.Terms {
		b = append(b, byte(t.Weight%256), byte(t.Weight/256))
	}
	for _, n := range c.V {
		b = append(b, byte(n+128))
	}
	return string(append(b, byte(c.Tags)))
}

// taker takes numbers off bytes, and doesn't care how they are written.
type taker struct {
	s     []byte
	short bool
}

// bytes takes n of them.
func (k *taker) bytes(n int) []byte {
	if n > len(k.s) {
		k.s, k.short = nil, true
		return make([]byte, n)
	}
	b := k.s[:n]
	k.s = k.s[n:]
	return b
}

// varint takes a number.
func (k *taker) varint() int {
	u, n := binary.Uvarint(k.s)
	if n <= 0 || u > 1<<40 {
		k.short = true
		return 0
	}
	k.s = k.s[n:]
	return int(u)
}

// change takes one.
func (k *taker) change() Change {
	c := Change{Record: Record{Doc: k.varint()}}
	if kind := k.varint(); kind > 0 {
		c.Gone = true
		return c
	}
	n, ahead := k.varint(), -1
	if n > mostTerms {
		k.short = true
		return c
	}
	for range n {
		ahead += 1 + k.varint()
		c.Terms = append(c.Terms, api.Term{Term: ahead})
	}
	for i := range c.Terms {
		c.Terms[i].Weight = int(binary.LittleEndian.Uint16(k.bytes(2)))
	}
	for _, b := range k.bytes(dims) {
		c.V = append(c.V, int(b)-128)
	}
	c.Tags = int(k.bytes(1)[0])
	return c
}

// changeAhead answers by the words the change with which s begins, and how many
// bytes it has: what could be meant, if these are the bytes of just that.
func changeAhead(s string) (Change, int, bool) {
	k := taker{s: []byte(s)}
	c := k.change()
	n := len(s) - len(k.s)
	if k.short || isWrong(c) != api.OK || bytesOf(c) != s[:n] {
		return Change{}, 0, false
	}
	return c, n, true
}

// alike holds two changes against each other; a list without elements is like
// one that is nil.
func alike(a, b Change) bool {
	for _, c := range []*Change{&a, &b} {
		if len(c.Terms) == 0 {
			c.Terms = nil
		}
		if len(c.V) == 0 {
			c.V = nil
		}
	}
	return reflect.DeepEqual(a, b)
}
