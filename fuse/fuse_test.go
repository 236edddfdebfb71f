package fuse

import (
	"cmp"
	"math"
	"math/big"
	"slices"
	"testing"

	"rankloft/api"
)

const (
	far   = 1 << 40
	most  = 1000000 // of c, a and b
	mostK = 1000
)

// sequence is a fixed row of numbers without an order that shows.
type sequence uint64

// below answers a number of 0 to n - 1.
func (q *sequence) below(n int) int {
	*q = *q*6364136223846793005 + 1442695040888963407
	x := uint64(*q)
	return int((x ^ x>>29) % uint64(n))
}

// list answers n documents out of so many, with Scores up to size, of either
// sign, in no order that shows.
func (q *sequence) list(n, of, size int) []api.Scored {
	var l []api.Scored
	for len(l) < n {
		doc := q.below(of) - of/3
		if !slices.ContainsFunc(l, func(x api.Scored) bool { return x.Doc == doc }) {
			l = append(l, api.Scored{Doc: doc, Score: q.below(2*size+1) - size})
		}
	}
	return l
}

// docs answers a list of these documents, with Scores that fall.
func docs(l ...int) []api.Scored {
	var s []api.Scored
	for i, doc := range l {
		s = append(s, api.Scored{Doc: doc, Score: 100 - 3*i})
	}
	return s
}

// long answers a list of n documents from first on.
func long(n, first int) []api.Scored {
	l := make([]api.Scored, n)
	for i := range l {
		l[i] = api.Scored{Doc: first + i, Score: n - i}
	}
	return l
}

// with answers l with another document at a place.
func with(l []api.Scored, at int, x api.Scored) []api.Scored {
	m := slices.Clone(l)
	m[at] = x
	return m
}

// value answers a document's value as the library says it.
func value(doc int, num, den int64) Value {
	r := big.NewRat(num, den)
	return Value{Doc: doc, Value: api.Ratio{Num: r.Num().Int64(), Den: r.Denom().Int64()}}
}

// inOrder answers l with the best one first, by the library's rationals.
func inOrder(l []Value) []Value {
	great := func(v Value) *big.Rat { return big.NewRat(v.Value.Num, v.Value.Den) }
	s := slices.Clone(l)
	slices.SortFunc(s, func(a, b Value) int {
		return cmp.Or(great(b).Cmp(great(a)), cmp.Compare(a.Doc, b.Doc))
	})
	return s
}

// either answers the documents of x and y, each once.
func either(x, y []api.Scored) []int {
	var l []int
	for _, z := range append(slices.Clone(x), y...) {
		l = append(l, z.Doc)
	}
	slices.Sort(l)
	return slices.Compact(l)
}

// place answers where a document stands in l; -1, if it doesn't.
func place(l []api.Scored, doc int) int {
	return slices.IndexFunc(l, func(x api.Scored) bool { return x.Doc == doc })
}

// plainRanks answers all that is fused by ranks, by the words and the library.
func plainRanks(x, y []api.Scored, c int) []Value {
	var l []Value
	for _, doc := range either(x, y) {
		sum := new(big.Rat)
		for _, z := range [][]api.Scored{x, y} {
			if i := place(z, doc); i >= 0 {
				sum.Add(sum, big.NewRat(1, int64(c+i+1)))
			}
		}
		l = append(l, value(doc, sum.Num().Int64(), sum.Denom().Int64()))
	}
	return inOrder(l)
}

// plainWeights answers all that is fused by weights, by the words and the
// library.
func plainWeights(x, y []api.Scored, a, b int) []Value {
	var l []Value
	for _, doc := range either(x, y) {
		sum := new(big.Int)
		for j, z := range [][]api.Scored{x, y} {
			if i := place(z, doc); i >= 0 {
				weight := big.NewInt(int64([]int{a, b}[j]))
				sum.Add(sum, weight.Mul(weight, big.NewInt(int64(z[i].Score))))
			}
		}
		l = append(l, value(doc, sum.Int64(), 1))
	}
	return inOrder(l)
}

// same holds what is fused against what should be.
func same(t *testing.T, name string, l []Value, e api.Errno, want []Value) {
	t.Helper()
	if e != api.OK || !slices.Equal(l, want) {
		t.Fatalf("%s: %v, %d, want %v", name, l, e, want)
	}
}

// some are how many may be asked for of n documents: one, fewer, as many, more.
func some(n int) []int {
	var l []int
	for _, k := range []int{1, 2, n / 2, n - 1, n, n + 1, 2 * n, mostK} {
		if k >= 1 && k <= mostK {
			l = append(l, k)
		}
	}
	return l
}

// checkRanks fuses by ranks, of any k, and with the lists turned about.
func checkRanks(t *testing.T, x, y []api.Scored, c int) {
	t.Helper()
	want := plainRanks(x, y, c)
	for _, k := range some(len(want)) {
		l, e := Ranks(x, y, c, k)
		same(t, "ranks", l, e, want[:min(k, len(want))])
		l, e = Ranks(y, x, c, k)
		same(t, "ranks turned about", l, e, want[:min(k, len(want))])
	}
}

// checkWeights fuses by weights, of any k, and with lists and weights turned
// about.
func checkWeights(t *testing.T, x, y []api.Scored, a, b int) {
	t.Helper()
	want := plainWeights(x, y, a, b)
	for _, k := range some(len(want)) {
		l, e := Weights(x, y, a, b, k)
		same(t, "weights", l, e, want[:min(k, len(want))])
		l, e = Weights(y, x, b, a, k)
		same(t, "weights turned about", l, e, want[:min(k, len(want))])
	}
}

// lists are pairs of lists: of none, of one empty one, that share none, some,
// and all.
func lists() [][2][]api.Scored {
	l := [][2][]api.Scored{
		{nil, nil}, {{}, nil}, {nil, {}}, {{}, {}},
		{docs(5), nil}, {nil, docs(5)}, {docs(3, 1, 2), {}}, {{}, docs(3, 1, 2)},
		{docs(1), docs(2)}, {docs(2), docs(1)}, {docs(1, 2, 3), docs(4, 5, 6)}, {docs(9, 7, 8, 1), docs(3, 2)},
		{docs(1, 2, 3), docs(3, 4)}, {docs(4, 3, 2, 1), docs(9, 1, 8, 2, 7)}, {docs(5), docs(5, 6)},
		{docs(1), docs(1)}, {docs(1, 2, 3), docs(1, 2, 3)}, {docs(1, 2, 3), docs(3, 2, 1)}, {docs(1, 2, 3, 4), docs(4, 1, 3, 2)},
		{docs(math.MinInt, 0, math.MaxInt, -1), docs(math.MaxInt, math.MinInt, -2)},
		{{{Doc: 1, Score: far}, {Doc: 2, Score: -far}, {Doc: 3}}, {{Doc: 2, Score: -far}, {Doc: 1, Score: far}, {Doc: 4, Score: -1}}},
		{long(mostK, 0), long(mostK, 500)}, {long(mostK, 0), long(mostK, mostK)}, {long(mostK, -7), nil}, {nil, long(mostK, -7)},
	}
	q := sequence(1)
	for i := range 60 {
		of := 40 + q.below(200)
		size := []int{2, 9, 1000, far}[i%4]
		l = append(l, [2][]api.Scored{q.list(q.below(40), of, size), q.list(q.below(40), of, size)})
	}
	return l
}

// none are no lists, each by one fault alone, wherever it stands.
func none() [][]api.Scored {
	l := [][]api.Scored{long(1001, 0), long(1002, -500), long(3000, 0), make([]api.Scored, 1001), make([]api.Scored, 1000), make([]api.Scored, 2), {{Doc: -1}, {Doc: -1}}}
	for _, n := range []int{1, 2, 3, 5, mostK} {
		right := long(n, 10)
		for _, at := range []int{0, n / 2, n - 1} {
			for _, score := range []int{far + 1, -far - 1, 2 * far, -2 * far, math.MaxInt, math.MinInt} {
				l = append(l, with(right, at, api.Scored{Doc: 10 + at, Score: score}))
			}
			for _, as := range []int{0, at - 1, at + 1, n - 1} {
				if as >= 0 && as < n && as != at {
					l = append(l, with(right, at, api.Scored{Doc: 10 + as, Score: 7}), with(right, at, right[as]))
				}
			}
		}
	}
	for _, doc := range []int{math.MinInt, -1, 0, math.MaxInt} {
		l = append(l, []api.Scored{{Doc: doc, Score: 2}, {Doc: 5, Score: 1}, {Doc: doc}})
	}
	return l
}

func TestRight(t *testing.T) {
	l := [][]api.Scored{
		nil, {}, {{}}, docs(5), docs(1, 2), docs(2, 1), docs(3, 9, -4), long(999, 0), long(mostK, 0), long(mostK, -500), long(mostK, math.MinInt), long(mostK, math.MaxInt-999),
		docs(math.MinInt), docs(math.MaxInt), docs(-1, math.MaxInt, 0, math.MinInt, 1), docs(1<<31, -1<<31, 1<<32, 0),
		{{Score: far}}, {{Score: -far}}, {{Score: far - 1}, {Doc: 1, Score: 1 - far}, {Doc: 2, Score: far}, {Doc: 3, Score: -far}},
		{{Doc: 1}, {Doc: 2}}, {{Doc: 1, Score: 1}, {Doc: 2, Score: 9}, {Doc: 3, Score: -2}},
	}
	for i, z := range l {
		if !Right(z) {
			t.Error(i, z)
		}
	}
	for i, z := range none() {
		if Right(z) {
			t.Error(i, len(z), z[:min(9, len(z))])
		}
	}
	// Of a list with room, its documents alone.
	room := append(docs(1, 2, 3), docs(2)...)
	if !Right(room[:3]) || Right(room) || Right(room[1:]) || !Right(room[2:]) {
		t.Error(room)
	}
}

// numbers are what Ranks and Weights are handed beside lists.
type numbers struct{ a, b, k int }

// wrongRanks are constants and ks that aren't right, each by one fault alone,
// and both.
func wrongRanks() []numbers {
	var l []numbers
	for _, c := range []int{0, -1, -60, math.MinInt, most + 1, 2 * most, 1 << 32, 1<<32 + 1, math.MaxInt} {
		l = append(l, numbers{a: c, k: 1}, numbers{a: c, k: mostK}, numbers{a: c, k: 0})
	}
	for _, k := range []int{0, -1, -mostK, math.MinInt, mostK + 1, 2 * mostK, 1<<32 + 1, math.MaxInt} {
		l = append(l, numbers{a: 1, k: k}, numbers{a: 60, k: k}, numbers{a: most, k: k})
	}
	return l
}

// wrongWeights are weights and ks that aren't right, each by one fault alone,
// and more.
func wrongWeights() []numbers {
	l := []numbers{{0, 0, 1}, {0, 0, mostK}, {0, 0, 0}, {-1, -1, 1}, {1, -1, 1}, {-1, 1, 1}, {most + 1, most + 1, 1}}
	for _, w := range []int{-1, -2, -most, math.MinInt, most + 1, 2 * most, 1 << 32, 1<<32 + 1, math.MaxInt} {
		for _, other := range []int{0, 1, most} {
			l = append(l, numbers{w, other, 1}, numbers{other, w, mostK}, numbers{w, other, 0})
		}
	}
	for _, k := range []int{0, -1, -mostK, math.MinInt, mostK + 1, 2 * mostK, 1<<32 + 1, math.MaxInt} {
		l = append(l, numbers{1, 1, k}, numbers{0, 1, k}, numbers{1, 0, k}, numbers{most, most, k})
	}
	return l
}

// refused holds what both must answer of two lists that they refuse.
func refused(t *testing.T, x, y []api.Scored, ranks, weights numbers, want api.Errno) {
	t.Helper()
	if l, e := Ranks(x, y, ranks.a, ranks.k); len(l) != 0 || e != want {
		t.Fatalf("ranks of %d and %d documents, %v: %v, %d, want %d", len(x), len(y), ranks, l, e, want)
	}
	if l, e := Weights(x, y, weights.a, weights.b, weights.k); len(l) != 0 || e != want {
		t.Fatalf("weights of %d and %d documents, %v: %v, %d, want %d", len(x), len(y), weights, l, e, want)
	}
}

func TestNoLists(t *testing.T) {
	for _, z := range none() {
		for _, right := range [][]api.Scored{nil, docs(5), docs(20, 10, 11)} {
			refused(t, z, right, numbers{a: 60, k: 9}, numbers{1, 1, 9}, api.ErrForm)
			refused(t, right, z, numbers{a: 60, k: 9}, numbers{1, 1, 9}, api.ErrForm)
		}
		refused(t, z, z, numbers{a: 60, k: 9}, numbers{1, 1, 9}, api.ErrForm)
		refused(t, z, make([]api.Scored, 2), numbers{a: 60, k: 9}, numbers{1, 1, 9}, api.ErrForm)
		// A weight of 0 makes no list of it.
		refused(t, z, docs(5), numbers{a: 60, k: 9}, numbers{0, 1, 9}, api.ErrForm)
		refused(t, docs(5), z, numbers{a: 60, k: 9}, numbers{1, 0, 9}, api.ErrForm)
	}
}

func TestOutOfRange(t *testing.T) {
	pairs := [][2][]api.Scored{{nil, nil}, {docs(5), nil}, {nil, docs(5)}, {docs(5, 6), docs(6, 7)}, {long(mostK, 0), long(mostK, 5)}}
	for _, p := range pairs {
		for _, n := range wrongRanks() {
			refused(t, p[0], p[1], n, wrongWeights()[0], api.ErrRange)
		}
		for _, n := range wrongWeights() {
			refused(t, p[0], p[1], wrongRanks()[0], n, api.ErrRange)
		}
	}
}

// What isn't of the form is told ahead of what is out of range.
func TestNoListsAndOutOfRange(t *testing.T) {
	for _, z := range [][]api.Scored{make([]api.Scored, 2), {{Score: far + 1}}, long(1001, 0)} {
		for _, p := range [][2][]api.Scored{{z, docs(5)}, {docs(5), z}, {z, z}, {nil, z}, {z, nil}} {
			for _, n := range wrongRanks() {
				refused(t, p[0], p[1], n, wrongWeights()[0], api.ErrForm)
			}
			for _, n := range wrongWeights() {
				refused(t, p[0], p[1], wrongRanks()[0], n, api.ErrForm)
			}
		}
	}
}

func TestRanksKnown(t *testing.T) {
	l, e := Ranks(docs(5), docs(5, 6), 1, 9)
	same(t, "the example", l, e, []Value{value(5, 1, 1), value(6, 1, 3)})
	l, e = Ranks(docs(5), docs(5, 6), 1, 1)
	same(t, "the example's first", l, e, []Value{value(5, 1, 1)})
	l, e = Ranks(docs(7, 8), nil, 60, 9)
	same(t, "one alone", l, e, []Value{value(7, 1, 61), value(8, 1, 62)})
	l, e = Ranks(docs(7, 8), docs(8, 7), 60, 9)
	same(t, "turned about", l, e, []Value{value(7, 123, 3782), value(8, 123, 3782)})
	l, e = Ranks(docs(1), docs(1), most, 1)
	same(t, "the greatest constant", l, e, []Value{value(1, 2, most+1)})
	for _, k := range []int{1, mostK} {
		for _, c := range []int{1, 60, most} {
			l, e = Ranks(nil, nil, c, k)
			same(t, "none", l, e, nil)
			l, e = Ranks([]api.Scored{}, nil, c, k)
			same(t, "none, empty", l, e, nil)
		}
	}
	// 1/2, 1/3 + 1/6, and 1/4 + 1/4 are the same.
	x, y := docs(9, 5, 7), docs(20, 21, 7, 22, 5)
	l, e = Ranks(x, y, 1, 4)
	same(t, "the same of other ranks", l, e, []Value{value(5, 1, 2), value(7, 1, 2), value(9, 1, 2), value(20, 1, 2)})
	x, y = docs(-3, 50, 7), docs(20, 21, 7, 22, 50)
	l, e = Ranks(x, y, 1, 4)
	same(t, "the same of other documents", l, e, []Value{value(-3, 1, 2), value(7, 1, 2), value(20, 1, 2), value(50, 1, 2)})
	l, e = Ranks(x, y, 1, 2)
	same(t, "the same, but two", l, e, []Value{value(-3, 1, 2), value(7, 1, 2)})
}

// By ranks it plays no part what the Scores are.
func TestRanksWithoutScores(t *testing.T) {
	for _, p := range lists() {
		flat := [2][]api.Scored{slices.Clone(p[0]), slices.Clone(p[1])}
		for i, l := range flat {
			for j := range l {
				l[j].Score = (i*j*j - 3*j) % 5
			}
		}
		l, e := Ranks(flat[0], flat[1], 60, mostK)
		want, _ := Ranks(p[0], p[1], 60, mostK)
		same(t, "other scores", l, e, want)
	}
}

func TestWeightsKnown(t *testing.T) {
	x := []api.Scored{{Doc: 1, Score: 9}, {Doc: 2, Score: 5}, {Doc: 3, Score: 1}}
	y := []api.Scored{{Doc: 3, Score: 4}, {Doc: 4, Score: -2}}
	for _, z := range []struct {
		a, b int
		want []Value
	}{
		{1, 2, []Value{value(1, 9, 1), value(3, 9, 1), value(2, 5, 1), value(4, -4, 1)}},
		{2, 1, []Value{value(1, 18, 1), value(2, 10, 1), value(3, 6, 1), value(4, -2, 1)}},
		{1, 0, []Value{value(1, 9, 1), value(2, 5, 1), value(3, 1, 1), value(4, 0, 1)}},
		{0, 1, []Value{value(3, 4, 1), value(1, 0, 1), value(2, 0, 1), value(4, -2, 1)}},
		{0, most, []Value{value(3, 4*most, 1), value(1, 0, 1), value(2, 0, 1), value(4, -2*most, 1)}},
		{most, 0, []Value{value(1, 9*most, 1), value(2, 5*most, 1), value(3, most, 1), value(4, 0, 1)}},
	} {
		for k := 1; k < 6; k++ {
			l, e := Weights(x, y, z.a, z.b, k)
			same(t, "known", l, e, z.want[:min(k, 4)])
		}
	}
	for _, k := range []int{1, mostK} {
		l, e := Weights(nil, nil, 0, 1, k)
		same(t, "none", l, e, nil)
		l, e = Weights([]api.Scored{}, nil, most, most, k)
		same(t, "none, empty", l, e, nil)
	}
	// 2 times 3 and 4, 10, 2 times 5, and 2 times 7 less 4 are the same.
	x, y = []api.Scored{{Doc: 8, Score: 3}, {Doc: 6, Score: 5}, {Doc: 4, Score: 7}}, []api.Scored{{Doc: 8, Score: 4}, {Doc: 5, Score: 10}, {Doc: 4, Score: -4}, {Doc: 3, Score: 9}}
	l, e := Weights(x, y, 2, 1, 9)
	same(t, "the same of other scores", l, e, []Value{value(4, 10, 1), value(5, 10, 1), value(6, 10, 1), value(8, 10, 1), value(3, 9, 1)})
	l, e = Weights(x, y, 2, 1, 3)
	same(t, "the same, but three", l, e, []Value{value(4, 10, 1), value(5, 10, 1), value(6, 10, 1)})
}

func TestWeightsFarthest(t *testing.T) {
	up, down := []api.Scored{{Doc: 1, Score: far}}, []api.Scored{{Doc: 1, Score: -far}}
	for _, z := range []struct {
		x, y []api.Scored
		a, b int
		want int64
	}{
		{up, up, most, most, 2 * far * most}, {down, down, most, most, -2 * far * most}, {up, down, most, most, 0}, {down, up, most, most, 0},
		{up, nil, most, most, far * most}, {nil, down, most, most, -far * most}, {up, down, most, most - 1, far}, {down, up, most, most - 1, -far},
		{up, down, 0, most, -far * most}, {up, down, most, 0, far * most}, {up, down, 0, 1, -far}, {down, nil, 0, 1, 0}, {nil, down, 1, 0, 0},
	} {
		l, e := Weights(z.x, z.y, z.a, z.b, 9)
		same(t, "farthest", l, e, []Value{value(1, z.want, 1)})
	}
	// A step apart, where sums as fractions of 53 bits would be the same.
	x := []api.Scored{{Doc: 3, Score: far}, {Doc: 1, Score: far}, {Doc: 2, Score: far}}
	y := []api.Scored{{Doc: 1, Score: 1}, {Doc: 2, Score: 2}, {Doc: 3, Score: 3}}
	l, e := Weights(x, y, most, 1, 9)
	same(t, "close", l, e, []Value{value(3, far*most+3, 1), value(2, far*most+2, 1), value(1, far*most+1, 1)})
}

func TestAsPlain(t *testing.T) {
	for _, p := range lists() {
		for _, c := range []int{1, 2, 60, 999, most} {
			checkRanks(t, p[0], p[1], c)
		}
		for _, w := range [][2]int{{1, 1}, {1, 0}, {0, 1}, {3, 2}, {most, 1}, {0, most}, {most, most}} {
			checkWeights(t, p[0], p[1], w[0], w[1])
		}
	}
}

// betterEverywhere checks that l stands by Better, each document once, with
// right rationals.
func betterEverywhere(t *testing.T, l []Value) {
	t.Helper()
	for i, v := range l {
		if v != value(v.Doc, v.Value.Num, v.Value.Den) {
			t.Fatal("not right:", v)
		}
		for _, w := range l[i+1:] {
			if v.Doc == w.Doc || !Better(v, w) || Better(w, v) {
				t.Fatal("not in order:", v, w)
			}
		}
	}
}

func TestInOrderAndBeginnings(t *testing.T) {
	for _, p := range lists()[:50] {
		ranks, _ := Ranks(p[0], p[1], 7, mostK)
		weights, _ := Weights(p[0], p[1], 3, 4, mostK)
		betterEverywhere(t, ranks)
		betterEverywhere(t, weights)
		n := min(mostK, len(either(p[0], p[1])))
		if len(ranks) != n || len(weights) != n {
			t.Fatal(len(ranks), len(weights), n)
		}
		for k := 1; k < mostK; k += 1 + k/9 {
			l, e := Ranks(p[0], p[1], 7, k)
			same(t, "the beginning by ranks", l, e, ranks[:min(k, n)])
			l, e = Weights(p[0], p[1], 3, 4, k)
			same(t, "the beginning by weights", l, e, weights[:min(k, n)])
		}
	}
}

// A list alone keeps its order by ranks, on either side, whatever its Scores.
func TestListAlone(t *testing.T) {
	for _, p := range lists() {
		for _, x := range p {
			for _, c := range []int{1, 60, most} {
				var want []Value
				for i, z := range x {
					want = append(want, value(z.Doc, 1, int64(c+i+1)))
				}
				l, e := Ranks(x, nil, c, mostK)
				same(t, "first", l, e, want)
				l, e = Ranks([]api.Scored{}, x, c, mostK)
				same(t, "second", l, e, want)
			}
		}
	}
}

func TestBetter(t *testing.T) {
	high := int64(math.MaxInt64)
	values := []api.Ratio{ // by rising values
		{Num: math.MinInt64, Den: 1}, {Num: -2 * far * most, Den: 1}, {Num: -1, Den: 1}, {Num: 1 - high, Den: high}, {Num: 2 - high, Den: high - 1}, {Num: -1, Den: 2}, {Num: -1, Den: 3}, {Num: -1, Den: high}, {Num: 0, Den: 1},
		{Num: 1, Den: high}, {Num: 1, Den: high - 1}, {Num: 1, Den: 1001000}, {Num: 1, Den: 1000999}, {Num: 1, Den: 62}, {Num: 1, Den: 61}, {Num: 124, Den: 3843}, {Num: 1, Den: 3}, {Num: 1, Den: 2},
		{Num: high - 2, Den: high - 1}, {Num: high - 1, Den: high}, {Num: 1, Den: 1}, {Num: high, Den: high - 1}, {Num: high - 1, Den: high - 2}, {Num: 2*far*most - 1, Den: 1}, {Num: 2 * far * most, Den: 1}, {Num: high, Den: 1},
	}
	numbers := []int{math.MinInt, -2, -1, 0, 1, 2, 1 << 31, math.MaxInt}
	for i, x := range values {
		for j, y := range values {
			for _, d := range numbers {
				for _, f := range numbers {
					want := i > j || i == j && d < f
					if Better(Value{Doc: d, Value: x}, Value{Doc: f, Value: y}) != want {
						t.Fatal(d, x, f, y, want)
					}
				}
			}
		}
	}
}

// Values that aren't what is fused make no panic.
func TestBetterOfOthers(t *testing.T) {
	var l []Value
	for _, num := range []int64{0, 1, -1, 2, math.MinInt64, math.MaxInt64} {
		for _, den := range []int64{0, -1, 2, 4, math.MinInt64, math.MaxInt64} {
			l = append(l, Value{Doc: 1, Value: api.Ratio{Num: num, Den: den}})
		}
	}
	for _, a := range l {
		for _, b := range l {
			if Better(a, b) && Better(b, a) {
				t.Error(a, b)
			}
		}
	}
}

// roomy answers l with room behind it that holds what no list may.
func roomy(l []api.Scored) (whole, part []api.Scored) {
	whole = append(slices.Clone(l), api.Scored{Doc: 1, Score: math.MinInt}, api.Scored{Doc: 1, Score: math.MaxInt})
	return whole, whole[:len(l)]
}

func TestHandedInAndAnswered(t *testing.T) {
	for _, p := range lists() {
		wholeX, x := roomy(p[0])
		wholeY, y := roomy(p[1])
		keptX, keptY := slices.Clone(wholeX), slices.Clone(wholeY)
		ranks, _ := Ranks(x, y, 60, mostK)
		weights, _ := Weights(x, y, 2, 3, mostK)
		if !Right(x) || !Right(y) || !slices.Equal(wholeX, keptX) || !slices.Equal(wholeY, keptY) {
			t.Fatal("changed:", p)
		}
		wantRanks, wantWeights := slices.Clone(ranks), slices.Clone(weights)
		clear(wholeX)
		clear(wholeY)
		if !slices.Equal(ranks, wantRanks) || !slices.Equal(weights, wantWeights) {
			t.Fatal("hangs on what was handed in:", p)
		}
		clear(ranks[:cap(ranks)])
		if !slices.Equal(weights, wantWeights) {
			t.Fatal("hangs on what was answered:", p)
		}
	}
}

// One list on both sides is a list on each.
func TestOneListTwice(t *testing.T) {
	for _, p := range lists() {
		other := slices.Clone(p[0])
		want, _ := Ranks(p[0], other, 60, mostK)
		l, e := Ranks(p[0], p[0], 60, mostK)
		same(t, "ranks", l, e, want)
		want, _ = Weights(p[0], other, 5, 2, mostK)
		l, e = Weights(p[0], p[0], 5, 2, mostK)
		same(t, "weights", l, e, want)
	}
}

// What was answered is changed in between, and other calls are made: the same
// call answers the same.
func TestTheSameAgain(t *testing.T) {
	for _, p := range lists()[:40] {
		wantRanks, wantWeights := plainRanks(p[0], p[1], 60), plainWeights(p[0], p[1], 1, 1)
		for range 5 {
			k := max(1, len(wantRanks)/2)
			l, e := Ranks(p[0], p[1], 60, k)
			same(t, "ranks", l, e, wantRanks[:min(k, len(wantRanks))])
			clear(l)
			l, e = Weights(p[0], p[1], 1, 1, k)
			same(t, "weights", l, e, wantWeights[:min(k, len(wantWeights))])
			clear(l)
			refused(t, make([]api.Scored, 2), p[0], numbers{a: 60, k: 9}, numbers{1, 1, 9}, api.ErrForm)
		}
	}
}
