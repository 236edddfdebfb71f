package doc

import (
	"fmt"
	"math"
	"slices"
	"sync"
	"testing"

	"rankloft/api"
)

// turned answers an empty list for one that is nil, and nil for an empty one.
func turned[T any](l []T) []T {
	switch {
	case len(l) > 0:
		return l
	case l == nil:
		return []T{}
	}
	return nil
}

// empty answers the change with lists that are empty, where they are nil, and the
// other way round.
func empty(c Change) Change {
	c.Terms, c.V = turned(c.Terms), turned(c.V)
	return c
}

// right holds what Right answers against an error, and what Print does with it:
// twice, and of nil and empty lists.
func right(t *testing.T, c Change, want api.Errno) {
	t.Helper()
	for _, c := range []Change{c, empty(c), c} {
		if e := Right(c); e != want {
			t.Fatalf("%v: error %d, want %d", c, e, want)
		}
		s, e := Print(c)
		if e != want || want != api.OK && s != "" {
			t.Fatalf("%v: printed %x, error %d, want %d", c, s, e, want)
		}
	}
}

func TestRightOfRight(t *testing.T) {
	for _, c := range rights() {
		right(t, c, api.OK)
	}
}

// beyond are numbers out of a range: one below and one above it, and more.
func beyond(least, most int) []int {
	l := []int{least - 1, most + 1, least - 2, most + 2, math.MinInt, math.MaxInt, least - 1<<32, most + 1<<32, math.MinInt32, 1 << 31, 1 << 32, -1 << 32}
	return slices.DeleteFunc(l, func(n int) bool { return n >= least && n <= most })
}

func TestRightOutOfRange(t *testing.T) {
	for _, c := range []Change{put(), put(row(5, 3)...), put(row(0, mostTerms)...), gone(7)} {
		for _, n := range beyond(0, mostDoc) {
			right(t, alter(c, func(c *Change) { c.Doc = n }), api.ErrRange)
		}
		for _, n := range beyond(0, allTags) {
			right(t, alter(c, func(c *Change) { c.Tags = n }), api.ErrRange)
		}
		for at := range c.Terms {
			for _, n := range beyond(0, mostTerm) {
				right(t, alter(c, func(c *Change) { c.Terms[at].Term = n }), api.ErrRange)
			}
			for _, n := range beyond(1, mostWeight) {
				right(t, alter(c, func(c *Change) { c.Terms[at].Weight = n }), api.ErrRange)
			}
		}
	}
}

func TestRightOfTooMany(t *testing.T) {
	for _, n := range []int{mostTerms + 1, mostTerms + 2, 2 * mostTerms, 1000, mostWeight} {
		right(t, put(row(0, n)...), api.ErrLong)
		right(t, put(row(mostTerm-n+1, n)...), api.ErrLong)
	}
	right(t, put(row(0, mostTerms)...), api.OK)
}

func TestRightOfATermTwice(t *testing.T) {
	one := api.Term{Term: 5, Weight: 1}
	for _, l := range [][]api.Term{
		{one, one},
		{one, {Term: 5, Weight: 2}},
		{{Term: 0, Weight: 2}, {Term: 0, Weight: 1}},
		{{Term: mostTerm, Weight: 1}, {Term: mostTerm, Weight: 1}},
		{one, one, one},
		{{Term: 1, Weight: 1}, one, one},
		{one, one, {Term: 9, Weight: 1}},
		{one, {Term: 9, Weight: 1}, one},
		{one, {Term: 1, Weight: 1}, one},
		{one, {Term: 9, Weight: 1}, {Term: 10, Weight: 1}, {Term: 5, Weight: 7}},
	} {
		right(t, put(l...), api.ErrTwice)
	}
	whole := row(100, mostTerms)
	for at := range whole {
		for other := range whole {
			if at != other {
				right(t, put(with(whole, at, whole[other])...), api.ErrTwice)
			}
		}
	}
	// A weight may be there as often as it likes.
	right(t, put(api.Term{Term: 1, Weight: 4}, api.Term{Term: 2, Weight: 4}, api.Term{Term: 4, Weight: 4}), api.OK)
}

func TestRightOfTermsThatFall(t *testing.T) {
	whole := row(100, mostTerms)
	for at := range whole {
		for other := range at {
			l := with(whole, at, whole[other])
			l[other] = whole[at]
			right(t, put(l...), api.ErrForm)
		}
	}
	right(t, put(api.Term{Term: 1, Weight: 1}, api.Term{Term: 0, Weight: 2}), api.ErrForm)
	right(t, put(api.Term{Term: mostTerm, Weight: 1}, api.Term{Term: 0, Weight: 1}), api.ErrForm)
}

// noVectors are lists of numbers that are none.
func noVectors() [][]int {
	l := [][]int{nil, {}, {0}, make([]int, dims-1), make([]int, dims+1), make([]int, 2*dims), make([]int, 1000)}
	for at := range dims {
		for _, n := range append(beyond(-size, size), 255, 256, -255, -256) {
			l = append(l, with(all(0), at, n), with(all(size), at, n))
		}
	}
	return append(l, all(size+1), all(-size-1), append(all(0), size+1))
}

func TestRightOfNoVector(t *testing.T) {
	for _, v := range noVectors() {
		for _, terms := range [][]api.Term{nil, row(0, 2), row(0, mostTerms)} {
			c := put(terms...)
			c.V = v
			right(t, c, api.ErrForm)
		}
	}
}

func TestRightOfGoneWithMore(t *testing.T) {
	for _, n := range []int{0, 5, mostDoc} {
		right(t, gone(n), api.OK)
		for _, terms := range [][]api.Term{row(0, 1), row(3, 2), row(0, mostTerms)} {
			right(t, alter(gone(n), func(c *Change) { c.Terms = terms }), api.ErrForm)
		}
		for tags := 1; tags <= allTags; tags++ {
			right(t, alter(gone(n), func(c *Change) { c.Tags = tags }), api.ErrForm)
		}
		for _, v := range append(noVectors(), all(0), all(1), all(-size)) {
			if len(v) > 0 {
				right(t, alter(gone(n), func(c *Change) { c.V = v }), api.ErrForm)
			}
		}
	}
	for _, c := range rights() {
		c.Gone = true
		right(t, c, isWrong(c))
	}
}

// fault does something to a change that makes it wrong.
type fault struct {
	name string
	want api.Errno
	do   func(*Change)
}

// faults are those of each kind; all of them may be done to one change of three
// terms, in this order, and none takes another one away.
func faults() []fault {
	return []fault{
		{"Doc below", api.ErrRange, func(c *Change) { c.Doc = -1 }},
		{"Doc above", api.ErrRange, func(c *Change) { c.Doc = mostDoc + 1 }},
		{"Tags below", api.ErrRange, func(c *Change) { c.Tags = -1 }},
		{"Tags above", api.ErrRange, func(c *Change) { c.Tags = allTags + 1 }},
		{"a Term below", api.ErrRange, func(c *Change) { c.Terms[0].Term = -1 }},
		{"a Term above", api.ErrRange, func(c *Change) { c.Terms[2].Term = mostTerm + 1 }},
		{"a Weight below", api.ErrRange, func(c *Change) { c.Terms[1].Weight = 0 }},
		{"a Weight above", api.ErrRange, func(c *Change) { c.Terms[0].Weight = mostWeight + 1 }},
		{"too many", api.ErrLong, func(c *Change) { c.Terms = append(c.Terms, row(1000, mostTerms-2)...) }},
		{"a Term twice", api.ErrTwice, func(c *Change) { c.Terms = append(c.Terms, c.Terms[1]) }},
		{"falls", api.ErrForm, func(c *Change) { c.Terms = append(c.Terms, api.Term{Term: 7, Weight: 1}) }},
		{"no vector", api.ErrForm, func(c *Change) { c.V = nil }},
		{"no numbers of a vector", api.ErrForm, func(c *Change) { c.V = append(c.V, 128) }},
		{"Gone with more", api.ErrForm, func(c *Change) { c.Gone = true }},
	}
}

func TestRightOfSeveralFaults(t *testing.T) {
	order := []api.Errno{api.ErrRange, api.ErrLong, api.ErrTwice, api.ErrForm, api.OK}
	l := faults()
	seen := map[string]bool{}
	for which := range 1 << len(l) {
		c := alter(put(row(10, 3)...), func(c *Change) { c.Tags = 3 })
		first := len(order) - 1
		var kinds []api.Errno
		for i, f := range l {
			if which>>i&1 == 1 {
				f.do(&c)
				first = min(first, slices.Index(order, f.want))
				kinds = append(kinds, f.want)
			}
		}
		seen[fmt.Sprint(kinds)] = true
		if want := order[first]; Right(c) != want || isWrong(c) != want {
			t.Fatalf("faults %b: %d, by the words %d, want %d", which, Right(c), isWrong(c), want)
		}
		right(t, c, order[first])
	}
	for i, a := range order[:3] {
		for _, b := range order[i+1 : 4] {
			if !seen[fmt.Sprint([]api.Errno{a, b})] {
				t.Error("not tried:", a, b)
			}
		}
	}
}

func TestRightAsTheWords(t *testing.T) {
	q := sequence(2)
	number := func(most int) int { return q.below(most+5) - 2 }
	wrong := 0
	for range 20000 {
		c := Change{Record: Record{Doc: q.upTo(mostDoc), Tags: q.below(allTags + 1), V: q.vector()}, Gone: q.below(4) == 0}
		for range q.below(5) {
			c.Terms = append(c.Terms, api.Term{Term: q.below(9), Weight: max(1, q.below(mostWeight))})
		}
		switch q.below(12) {
		case 0:
			c.V = nil
		case 1:
			c.V[q.below(dims)] = number(2*size) - size
		case 2:
			c.Doc = number(mostDoc)
		case 3:
			c.Tags = number(allTags)
		case 4:
			c.Terms = append(c.Terms, api.Term{Term: q.below(9) - 1, Weight: number(1)})
		case 5:
			c.Terms, c.V = nil, nil
		case 6:
			c.Terms, c.V, c.Tags = nil, nil, 0
		}
		if e := Right(c); e != isWrong(c) {
			t.Fatalf("%v: error %d, want %d", c, e, isWrong(c))
		}
		if Right(c) != api.OK {
			wrong++
		}
	}
	if wrong < 1000 || wrong > 19000 {
		t.Error("wrong ones:", wrong)
	}
}

func TestSame(t *testing.T) {
	l := rights()
	for i, a := range l {
		for j, b := range l {
			if got := Same(a, b); got != alike(a, b) || i == j && !got {
				t.Fatalf("%v and %v: %v", a, b, got)
			}
		}
		if b := clone(a); !Same(a, b) || !Same(a, empty(b)) || !Same(empty(a), b) {
			t.Fatalf("%v isn't the same as its copy", a)
		}
	}
}

// unlike are changes that differ from one with three terms in one field alone.
func unlike() []func(*Change) {
	l := []func(*Change){
		func(c *Change) { c.Doc++ },
		func(c *Change) { c.Doc += 1 << 32 },
		func(c *Change) { c.Doc = -c.Doc },
		func(c *Change) { c.Tags++ },
		func(c *Change) { c.Tags += 256 },
		func(c *Change) { c.Tags = -1 },
		func(c *Change) { c.Gone = !c.Gone },
		func(c *Change) { c.Terms = nil },
		func(c *Change) { c.Terms = c.Terms[1:] },
		func(c *Change) { c.Terms = append(c.Terms, c.Terms[0]) },
		func(c *Change) { c.Terms = append(c.Terms, api.Term{}) },
		func(c *Change) { c.Terms[0], c.Terms[1] = c.Terms[1], c.Terms[0] },
		func(c *Change) { c.V = nil },
		func(c *Change) { c.V = c.V[1:] },
		func(c *Change) { c.V = append(c.V, 0) },
		func(c *Change) { c.V[0], c.V[1] = c.V[1], c.V[0] },
	}
	for at := range 3 {
		l = append(l,
			func(c *Change) { c.Terms = c.Terms[:at] },
			func(c *Change) { c.Terms[at].Term++ },
			func(c *Change) { c.Terms[at].Term = -1 },
			func(c *Change) { c.Terms[at].Weight++ },
			func(c *Change) { c.Terms[at].Weight += 1 << 16 })
	}
	for at := range dims {
		l = append(l,
			func(c *Change) { c.V = c.V[:at] },
			func(c *Change) { c.V[at]++ },
			func(c *Change) { c.V[at] -= 256 })
	}
	return l
}

func TestSameFieldByField(t *testing.T) {
	base := Change{Record: Record{Doc: 9, Terms: row(5, 3), V: []int{1, 2, 3, 4, 5, 6, 7, 8}, Tags: 3}}
	for i, do := range unlike() {
		c := alter(base, do)
		for range 2 {
			if Same(base, c) || Same(c, base) || !Same(c, clone(c)) {
				t.Errorf("%d: %v and %v", i, base, c)
			}
		}
	}
	none, nought := Change{}, Change{Record: Record{Terms: []api.Term{{}}}}
	if Same(none, nought) || Same(nought, none) || Same(none, Change{Record: Record{V: []int{0}}}) {
		t.Error("a list of one nought is no empty list")
	}
	if !Same(none, Change{}) || !Same(none, empty(none)) || !Same(empty(none), none) {
		t.Error("nil and empty lists mean the same")
	}
}

// roomy answers the change with spare room behind its lists, and all of that.
func roomy(c Change) (Change, func() string) {
	terms := append(slices.Clone(c.Terms), api.Term{Term: -9, Weight: -8}, api.Term{Term: 3, Weight: 4})
	v := append(slices.Clone(c.V), -7, 6, 500)
	c.Terms, c.V = terms[:len(c.Terms)], v[:len(c.V)]
	return c, func() string { return fmt.Sprint(c, terms, v) }
}

func TestLeavesWhatIsHandedIn(t *testing.T) {
	l := rights()
	for _, f := range faults() {
		l = append(l, alter(put(row(10, 3)...), f.do))
	}
	for _, do := range unlike() {
		l = append(l, alter(put(row(0, mostTerms)...), do))
	}
	for _, c := range l {
		mine, told := roomy(c)
		other, toldOther := roomy(c)
		want, wantOther := told(), toldOther()
		Right(mine)
		Print(mine)
		Same(mine, other)
		if told() != want || toldOther() != wantOther {
			t.Fatalf("%s became %s", want, told())
		}
	}
}

func TestAtATime(t *testing.T) {
	l := rights()
	var w sync.WaitGroup
	for range 4 {
		w.Go(func() {
			for _, c := range l {
				s, e := Print(c)
				if d, f := Parse(s); e != api.OK || f != api.OK || !Same(c, d) {
					t.Errorf("%v: %x, %d, %v, %d", c, s, e, d, f)
				}
			}
		})
	}
	w.Wait()
}
