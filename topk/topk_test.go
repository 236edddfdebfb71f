package topk

import (
	"cmp"
	"math"
	"slices"
	"testing"

	"rankloft/api"
)

const (
	most  = math.MaxInt
	least = math.MinInt
)

// sequence is a fixed row of numbers without an order that shows.
type sequence uint64

// below answers a number of 0 to n - 1.
func (q *sequence) below(n int) int {
	*q = *q*6364136223846793005 + 1442695040888963407
	x := uint64(*q)
	return int((x ^ x>>29) % uint64(n))
}

// scored answers so many documents, of few scores and few numbers: so many
// share a score, and some are the same.
func (q *sequence) scored(n int) []api.Scored {
	l := make([]api.Scored, n)
	for i := range l {
		l[i] = api.Scored{Doc: q.below(n), Score: q.below(7) - 3}
	}
	return l
}

// mixed answers l in another order.
func (q *sequence) mixed(l []api.Scored) []api.Scored {
	m := slices.Clone(l)
	for i := range m {
		j := i + q.below(len(m)-i)
		m[i], m[j] = m[j], m[i]
	}
	return m
}

// greater is the order of plain numbers: the greater one is better.
func greater(a, b int) bool { return a > b }

// sorted answers l with the best one first, by the words alone.
func sorted(l []api.Scored) []api.Scored {
	s := slices.Clone(l)
	slices.SortFunc(s, func(a, b api.Scored) int {
		return cmp.Or(cmp.Compare(b.Score, a.Score), cmp.Compare(a.Doc, b.Doc))
	})
	return s
}

// best answers the beginning of sorted that a bound of k keeps.
func best(k int, l []api.Scored) []api.Scored {
	return sorted(l)[:min(max(k, 0), len(l))]
}

// orders calls f with l in each of its orders.
func orders(l []api.Scored, f func([]api.Scored)) {
	var from func(int)
	from = func(i int) {
		if i == len(l) {
			f(slices.Clone(l))
			return
		}
		for j := i; j < len(l); j++ {
			l[i], l[j] = l[j], l[i]
			from(i + 1)
			l[i], l[j] = l[j], l[i]
		}
	}
	from(0)
}

// holds checks all that a bound of k tells, against the best that it should
// keep.
func holds[T comparable](t *testing.T, name string, x *Top[T], k int, want []T) {
	t.Helper()
	if x.Len() != len(want) {
		t.Fatalf("%s: Len %d, want %d", name, x.Len(), len(want))
	}
	if l := x.List(); !slices.Equal(l, want) {
		t.Fatalf("%s: List %v, want %v", name, l, want)
	}
	var worst T
	full := k >= 1 && len(want) == k
	if full {
		worst = want[k-1]
	}
	if w, ok := x.Worst(); w != worst || ok != full {
		t.Fatalf("%s: Worst %v, %v, want %v, %v", name, w, ok, worst, full)
	}
}

func TestBetter(t *testing.T) {
	for _, x := range []struct {
		name string
		a, b api.Scored
		want bool
	}{
		{"a greater score", api.Scored{Doc: 1, Score: 6}, api.Scored{Doc: 1, Score: 5}, true},
		{"a lesser score", api.Scored{Doc: 1, Score: 5}, api.Scored{Doc: 1, Score: 6}, false},
		{"a greater score, a greater document", api.Scored{Doc: 9, Score: 6}, api.Scored{Doc: 1, Score: 5}, true},
		{"a lesser score, a lesser document", api.Scored{Doc: 1, Score: 5}, api.Scored{Doc: 9, Score: 6}, false},
		{"a greater score, a lesser document", api.Scored{Doc: 1, Score: 6}, api.Scored{Doc: 9, Score: 5}, true},
		{"a lesser score, a greater document", api.Scored{Doc: 9, Score: 5}, api.Scored{Doc: 1, Score: 6}, false},
		{"the same score, a lesser document", api.Scored{Doc: 2, Score: 5}, api.Scored{Doc: 3, Score: 5}, true},
		{"the same score, a greater document", api.Scored{Doc: 3, Score: 5}, api.Scored{Doc: 2, Score: 5}, false},
		{"the same twice", api.Scored{Doc: 3, Score: 5}, api.Scored{Doc: 3, Score: 5}, false},
		{"noughts", api.Scored{}, api.Scored{}, false},
		{"less far below 0", api.Scored{Doc: 1, Score: -1}, api.Scored{Doc: 1, Score: -2}, true},
		{"farther below 0", api.Scored{Doc: 1, Score: -2}, api.Scored{Doc: 1, Score: -1}, false},
		{"documents below 0", api.Scored{Doc: -2}, api.Scored{Doc: -1}, true},
		{"documents below 0, turned about", api.Scored{Doc: -1}, api.Scored{Doc: -2}, false},
		{"the greatest score and the least", api.Scored{Score: most}, api.Scored{Score: least}, true},
		{"the least score and the greatest", api.Scored{Score: least}, api.Scored{Score: most}, false},
		{"the greatest score and -1", api.Scored{Score: most}, api.Scored{Score: -1}, true},
		{"the least document and the greatest", api.Scored{Doc: least}, api.Scored{Doc: most}, true},
		{"the greatest document and the least", api.Scored{Doc: most}, api.Scored{Doc: least}, false},
	} {
		if got := Better(x.a, x.b); got != x.want {
			t.Errorf("%s: Better(%v, %v) = %v", x.name, x.a, x.b, got)
		}
	}
}

func TestBetterIsAnOrder(t *testing.T) {
	var l []api.Scored
	for _, score := range []int{least, -1, 0, 1, most} {
		for _, doc := range []int{least, -1, 0, 1, most} {
			l = append(l, api.Scored{Doc: doc, Score: score})
		}
	}
	for _, a := range l {
		for _, b := range l {
			if a == b && Better(a, b) || a != b && Better(a, b) == Better(b, a) {
				t.Errorf("%v and %v: %v, turned about %v", a, b, Better(a, b), Better(b, a))
			}
			for _, c := range l {
				if Better(a, b) && Better(b, c) && !Better(a, c) {
					t.Errorf("%v, %v, %v: the first isn't better than the last", a, b, c)
				}
			}
		}
	}
}

func TestNewKeepsNothing(t *testing.T) {
	for _, k := range []int{least, -4, -1, 0, 1, 2, 1000, most} {
		holds(t, "numbers", New(k, greater), k, nil)
		holds(t, "documents", New(k, Better), k, nil)
	}
}

func TestBoundOfNone(t *testing.T) {
	for _, k := range []int{least, -1000, -1, 0} {
		x := New(k, Better)
		for _, s := range []api.Scored{{Doc: 1, Score: 1}, {}, {Doc: 1, Score: -1}, {Score: most}, {Score: most}} {
			if x.Offer(s) {
				t.Errorf("a bound of %d keeps %v", k, s)
			}
			holds(t, "a bound of none", x, k, nil)
		}
	}
}

// TestOffer goes step by step through bounds of numbers.
func TestOffer(t *testing.T) {
	type step struct {
		x    int
		kept bool
		list []int
	}
	for _, b := range []struct {
		name  string
		k     int
		steps []step
	}{
		{"of one", 1, []step{
			{5, true, []int{5}}, {4, false, []int{5}}, {5, false, []int{5}}, {6, true, []int{6}},
			{5, false, []int{6}}, {6, false, []int{6}}, {most, true, []int{most}}, {least, false, []int{most}},
		}},
		{"of two", 2, []step{
			{0, true, []int{0}}, {0, true, []int{0, 0}}, {0, false, []int{0, 0}}, {-1, false, []int{0, 0}},
			{1, true, []int{1, 0}}, {0, false, []int{1, 0}}, {1, true, []int{1, 1}}, {0, false, []int{1, 1}}, {1, false, []int{1, 1}},
		}},
		{"of three", 3, []step{
			{5, true, []int{5}}, {1, true, []int{5, 1}}, {9, true, []int{9, 5, 1}}, {1, false, []int{9, 5, 1}},
			{0, false, []int{9, 5, 1}}, {7, true, []int{9, 7, 5}}, {5, false, []int{9, 7, 5}}, {6, true, []int{9, 7, 6}},
			{10, true, []int{10, 9, 7}}, {8, true, []int{10, 9, 8}}, {9, true, []int{10, 9, 9}}, {9, false, []int{10, 9, 9}},
		}},
		{"with room left", most, []step{
			{3, true, []int{3}}, {3, true, []int{3, 3}}, {least, true, []int{3, 3, least}}, {least, true, []int{3, 3, least, least}}, {4, true, []int{4, 3, 3, least, least}},
		}},
		{"the least first", 4, []step{
			{1, true, []int{1}}, {2, true, []int{2, 1}}, {3, true, []int{3, 2, 1}}, {4, true, []int{4, 3, 2, 1}},
			{5, true, []int{5, 4, 3, 2}}, {6, true, []int{6, 5, 4, 3}}, {7, true, []int{7, 6, 5, 4}}, {4, false, []int{7, 6, 5, 4}},
		}},
	} {
		x := New(b.k, greater)
		for i, s := range b.steps {
			if kept := x.Offer(s.x); kept != s.kept {
				t.Errorf("a bound %s, step %d: Offer(%d) = %v", b.name, i, s.x, kept)
			}
			holds(t, "a bound "+b.name, x, b.k, s.list)
		}
	}
}

// TestOfferLikeTheWords offers documents to bounds of every size, and holds
// each step against what the words tell of all that was offered till then.
func TestOfferLikeTheWords(t *testing.T) {
	q := sequence(1)
	for k := -1; k <= 70; k++ {
		x, l := New(k, Better), q.scored(60)
		for i, s := range l {
			before := best(k, l[:i])
			// While fewer are kept it is, else if it is better than the worst.
			want := len(before) < k || k > 0 && Better(s, before[k-1])
			if kept := x.Offer(s); kept != want {
				t.Fatalf("a bound of %d, step %d: Offer(%v) = %v", k, i, s, kept)
			}
			holds(t, "documents", x, k, best(k, l[:i+1]))
		}
	}
}

func TestWorstBeforeItIsFull(t *testing.T) {
	x := New(3, Better)
	for i, s := range []api.Scored{{Doc: 1, Score: 8}, {Doc: 2, Score: 9}} {
		x.Offer(s)
		if w, ok := x.Worst(); w != (api.Scored{}) || ok {
			t.Errorf("of %d kept: %v, %v", i+1, w, ok)
		}
	}
	x.Offer(api.Scored{Doc: 3, Score: 7})
	for range 2 {
		if w, ok := x.Worst(); w != (api.Scored{Doc: 3, Score: 7}) || !ok {
			t.Errorf("of 3 kept: %v, %v", w, ok)
		}
	}
}

func TestListIsNewMemory(t *testing.T) {
	for _, k := range []int{1, 2, 5, 8} {
		x := New(k, greater)
		for i := range 5 {
			x.Offer(i)
		}
		first, want := x.List(), x.List()
		first = first[:cap(first)]
		for i := range first {
			first[i] = 99
		}
		holds(t, "a list was written to", x, k, want)
		second, third := x.List(), x.List()
		second = append(second, 77)
		second[0] = 88
		if !slices.Equal(third, want) {
			t.Errorf("a bound of %d: two lists share memory: %v", k, third)
		}
		x.Offer(100)
		if !slices.Equal(third, want) {
			t.Errorf("a bound of %d: a list goes on with its bound: %v", k, third)
		}
	}
}

// word is of another type than api.Scored: the longer one is better, of the
// same length the one that comes first by its letters.
type word struct{ text string }

func longer(a, b word) bool {
	if len(a.text) != len(b.text) {
		return len(a.text) > len(b.text)
	}
	return a.text < b.text
}

func TestBoundOfWords(t *testing.T) {
	x := New(3, longer)
	for _, s := range []struct {
		text string
		kept bool
	}{
		{"", true}, {"pear", true}, {"fig", true}, {"plum", true}, {"", false}, {"kiwi", true},
		{"pear", true}, {"plum", false}, {"lime", true}, {"pear", false}, {"zzz", false}, {"apple", true},
	} {
		if kept := x.Offer(word{s.text}); kept != s.kept {
			t.Errorf("Offer(%q) = %v", s.text, kept)
		}
	}
	holds(t, "words", x, 3, []word{{"apple"}, {"kiwi"}, {"lime"}})
}

func TestBoundsOfTheirOwnOrders(t *testing.T) {
	up, down := New(2, func(a, b float64) bool { return a < b }), New(2, func(a, b float64) bool { return a > b })
	near := 10
	nearer := New(2, func(a, b int) bool {
		x, y := max(a-near, near-a), max(b-near, near-b)
		return x < y || x == y && a < b
	})
	for _, n := range []int{3, 12, 8, 1, 30, 8} {
		up.Offer(float64(n) / 2)
		down.Offer(float64(n) / 2)
		nearer.Offer(n)
	}
	holds(t, "the lesser is better", up, 2, []float64{0.5, 1.5})
	holds(t, "the greater is better", down, 2, []float64{15, 6})
	holds(t, "the nearer is better", nearer, 2, []int{8, 8})
}

func TestBest(t *testing.T) {
	l := []api.Scored{{Doc: 3, Score: 5}, {Doc: 2, Score: 5}, {Doc: 4, Score: 9}, {Doc: 7, Score: -1}, {Doc: 2, Score: 5}}
	all := []api.Scored{{Doc: 4, Score: 9}, {Doc: 2, Score: 5}, {Doc: 2, Score: 5}, {Doc: 3, Score: 5}, {Doc: 7, Score: -1}}
	for _, x := range []struct{ k, n int }{{least, 0}, {-1, 0}, {0, 0}, {1, 1}, {2, 2}, {3, 3}, {4, 4}, {5, 5}, {6, 5}, {1000, 5}, {most, 5}} {
		if got := Best(x.k, l); !slices.Equal(got, all[:x.n]) {
			t.Errorf("Best(%d) = %v, want %v", x.k, got, all[:x.n])
		}
	}
	if got := Best(1, []api.Scored{{Doc: 3, Score: 5}, {Doc: 2, Score: 5}}); !slices.Equal(got, []api.Scored{{Doc: 2, Score: 5}}) {
		t.Errorf("of the same score: %v", got)
	}
	for _, k := range []int{least, -1, 0, 1, 5, most} {
		for _, none := range [][]api.Scored{nil, {}} {
			if got := Best(k, none); len(got) != 0 {
				t.Errorf("Best(%d) of none: %v", k, got)
			}
		}
	}
}

func TestBestLeavesItsList(t *testing.T) {
	q := sequence(2)
	room := q.scored(30)
	before, l := slices.Clone(room), room[:20]
	for k := range 23 {
		want, got := best(k, l), Best(k, l)
		if !slices.Equal(got, want) {
			t.Fatalf("Best(%d) = %v, want %v", k, got, want)
		}
		got = got[:cap(got)]
		for i := range got {
			got[i] = api.Scored{Doc: -9, Score: -9}
		}
		if !slices.Equal(room, before) {
			t.Fatalf("Best(%d) changed the list, or shares its memory: %v", k, room)
		}
	}
}

func TestOrderOfOffersPlaysNoPart(t *testing.T) {
	for _, l := range [][]api.Scored{
		{{Doc: 1, Score: 1}, {Doc: 2, Score: 2}, {Doc: 3, Score: 3}, {Doc: 4, Score: 4}, {Doc: 5, Score: 5}, {Doc: 6, Score: 6}, {Doc: 7, Score: 7}},
		{{Doc: 1, Score: 1}, {Doc: 2, Score: 1}, {Doc: 3, Score: 1}, {Doc: 4, Score: 2}, {Doc: 5, Score: 2}, {Doc: 6, Score: 0}},
		{{Doc: 1, Score: 1}, {Doc: 1, Score: 1}, {Doc: 1, Score: 1}, {Doc: 2, Score: 1}, {Doc: 2, Score: 1}, {Doc: 1, Score: 2}},
	} {
		want := sorted(l)
		orders(l, func(m []api.Scored) {
			for k := range len(l) + 2 {
				if got := Best(k, m); !slices.Equal(got, want[:min(k, len(l))]) {
					t.Fatalf("Best(%d, %v) = %v", k, m, got)
				}
			}
		})
	}
	q := sequence(3)
	for range 300 {
		l := q.scored(1 + q.below(80))
		k := q.below(len(l) + 3)
		if a, b := Best(k, l), Best(k, q.mixed(l)); !slices.Equal(a, b) {
			t.Fatalf("Best(%d): %v, in another order %v", k, a, b)
		}
	}
}

func TestFewerAreTheBeginningOfMore(t *testing.T) {
	q := sequence(4)
	for range 20 {
		l := q.scored(1 + q.below(50))
		more := Best(len(l)+1, l)
		for k := len(l); k >= 0; k-- {
			// The lesser bound is offered them in another order, too.
			fewer := Best(k, q.mixed(l))
			if len(fewer) != k || !slices.Equal(fewer, more[:k]) {
				t.Fatalf("of %d: %v, of one more: %v", k, fewer, more)
			}
			more = fewer
		}
	}
}

func TestManyAreOffered(t *testing.T) {
	const n = 200000
	up, down := New(n/2, greater), New(n/2, greater)
	for i := range n {
		up.Offer(i)
		down.Offer(n - 1 - i)
	}
	var want []int
	for i := range n / 2 {
		want = append(want, n-1-i)
	}
	if !slices.Equal(up.List(), want) || !slices.Equal(down.List(), want) {
		t.Error("of many others are kept")
	}
}

func TestBoundsAreApart(t *testing.T) {
	a, b := New(2, greater), New(2, greater)
	a.Offer(1)
	b.Offer(9)
	a.Offer(2)
	a.Offer(3)
	holds(t, "the first", a, 2, []int{3, 2})
	holds(t, "the second", b, 2, []int{9})
}

// TestOrdersThatAreNone: nothing is promised of what is kept by such, but that
// every call ends, and that no more are kept than may be.
func TestOrdersThatAreNone(t *testing.T) {
	for name, better := range map[string]func(a, b int) bool{
		"nil":    nil,
		"never":  func(a, b int) bool { return false },
		"always": func(a, b int) bool { return true },
		"round":  func(a, b int) bool { return (a-b+300)%3 == 1 },
	} {
		for k := -1; k <= 40; k++ {
			x := New(k, better)
			for i := range 100 {
				x.Offer(i)
			}
			if _, ok := x.Worst(); x.Len() != max(k, 0) || len(x.List()) != max(k, 0) || ok != (k > 0) {
				t.Fatalf("%s: a bound of %d keeps %d: %v", name, k, x.Len(), x.List())
			}
		}
	}
}
