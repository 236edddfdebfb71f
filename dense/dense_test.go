package dense

import (
	"math"
	"slices"
	"sync"
	"testing"

	"rankloft/api"
)

const (
	mostDoc   = 1<<31 - 1
	mostFound = 1000
	dims      = 8
	size      = 127
)

// sequence is a fixed row of numbers without an order that shows.
type sequence uint64

// below answers a number of 0 to n - 1.
func (q *sequence) below(n int) int {
	*q = *q*6364136223846793005 + 1442695040888963407
	x := uint64(*q)
	return int((x ^ x>>29) % uint64(n))
}

// vector answers one of numbers up to most, of either sign.
func (q *sequence) vector(most int) []int {
	v := make([]int, dims)
	for i := range v {
		v[i] = q.below(2*most+1) - most
	}
	return v
}

// rows answers n of them, with steps of 1 to step from one document to the next,
// and numbers up to most.
func (q *sequence) rows(n, step, most int) []Row {
	l, doc := make([]Row, n), -1
	for i := range l {
		doc += 1 + q.below(step)
		l[i] = Row{Doc: doc, V: q.vector(most)}
	}
	return l
}

// all answers the vector of one number.
func all(n int) []int { return slices.Repeat([]int{n}, dims) }

// with answers v with another number at a place.
func with(v []int, at, n int) []int {
	w := slices.Clone(v)
	w[at] = n
	return w
}

// row answers rows of documents from first on, one of each vector.
func row(first int, vectors ...[]int) []Row {
	var l []Row
	for i, v := range vectors {
		l = append(l, Row{Doc: first + i, V: v})
	}
	return l
}

func yes(int) bool { return true }

// never is a function that may not be asked.
func never(t *testing.T) func(int) bool {
	return func(doc int) bool { t.Error("asked of", doc); return true }
}

// filters are functions that let documents be.
func filters() []func(int) bool {
	return []func(int) bool{
		yes,
		func(int) bool { return false },
		func(doc int) bool { return doc%2 == 1 },
		func(doc int) bool { return doc%5 != 0 },
		func(doc int) bool { return doc > 10 },
		func(doc int) bool { return doc == 7 },
	}
}

// bring answers what one number brings, by the words.
func bring(measure, a, b int) int {
	if measure == 0 {
		return a * b
	}
	return -(a*a - 2*a*b + b*b)
}

// plain answers the score of the first n numbers.
func plain(measure int, a, b []int, n int) int {
	score := 0
	for i := range n {
		score += bring(measure, a[i], b[i])
	}
	return score
}

// farthest answers, behind each number of q, what all numbers that there can be
// bring at most.
func farthest(measure int, q []int) []int {
	sums := make([]int, dims)
	for i := range dims {
		for j := i + 1; j < dims; j++ {
			best := math.MinInt
			for n := -size; n <= size; n++ {
				best = max(best, bring(measure, q[j], n))
			}
			sums[i] += best
		}
	}
	return sums
}

// better puts documents in layer 4's order.
func better(a, b api.Scored) int {
	if a.Score != b.Score {
		return b.Score - a.Score
	}
	return a.Doc - b.Doc
}

// found answers what is found, and how many numbers are looked at: each row is
// given up behind the first number at which it can't come above the worst of k.
func found(measure int, q []int, rows []Row, k int, may func(int) bool) ([]api.Scored, int) {
	var l []api.Scored
	numbers, left := 0, farthest(measure, q)
	for _, r := range rows {
		if !may(r.Doc) {
			continue
		}
		n := 1
		for n < dims && (len(l) < k || plain(measure, q, r.V, n)+left[n-1] > l[k-1].Score) {
			n++
		}
		numbers += n
		// What was given up is offered all the same: it mustn't matter.
		l = append(l, api.Scored{Doc: r.Doc, Score: plain(measure, q, r.V, dims)})
		slices.SortFunc(l, better)
		l = l[:min(k, len(l))]
	}
	return l, numbers
}

// check finds, by a Count and without, and holds it against a plain count; it
// answers how many numbers were looked at.
func check(t *testing.T, measure int, q []int, rows []Row, k int, may func(int) bool) int {
	t.Helper()
	want, numbers := found(measure, q, rows, k, may)
	if l, e := Find(measure, q, rows, k, may); e != api.OK || !slices.Equal(l, want) {
		t.Fatalf("measure %d, %v in %d rows, k %d: found %v, %d; want %v", measure, q, len(rows), k, l, e, want)
	}
	var c Count
	var asked []int
	asking := func(doc int) bool {
		asked = append(asked, doc)
		return may(doc)
	}
	if l, e := c.Find(measure, q, rows, k, asking); e != api.OK || !slices.Equal(l, want) {
		t.Fatalf("measure %d, %v in %d rows, k %d: a Count found %v, %d; want %v", measure, q, len(rows), k, l, e, want)
	}
	n := 0
	for i, r := range rows {
		if len(asked) != len(rows) || asked[i] != r.Doc {
			t.Fatalf("asked of %v", asked)
		}
		if may(r.Doc) {
			n++
		}
	}
	if c.Numbers() != numbers || c.Numbers() < n || c.Numbers() > dims*n {
		t.Fatalf("measure %d, %v in %d rows, k %d: looked at %d numbers of %d rows, want %d", measure, q, len(rows), k, c.Numbers(), n, numbers)
	}
	return c.Numbers()
}

// none are lists of numbers that are no vectors.
func none() [][]int {
	l := [][]int{nil, {}, {0}, make([]int, 7), make([]int, 9), make([]int, 1000)}
	for at := range dims {
		for _, n := range []int{-128, 128, 129, -255, 255, 256, math.MinInt, math.MaxInt, 1 << 32, -1 << 32} {
			l = append(l, with(all(0), at, n), with(all(size), at, n))
		}
	}
	return append(l, all(128), all(-128), slices.Repeat([]int{size}, 7), slices.Repeat([]int{size}, 9), append(all(1), 128))
}

// wrongMeasures are those below and above the two.
func wrongMeasures() []int {
	return []int{-1, -2, math.MinInt, 2, 3, 256, 1 << 32, math.MaxInt}
}

func TestRight(t *testing.T) {
	l := [][]int{all(0), all(1), all(size), all(-size), {1, -2, 3, -4, 5, -6, 7, -8}}
	for at := range dims {
		for _, n := range []int{-size, -126, -1, 0, 1, 126, size} {
			l = append(l, with(all(0), at, n), with(all(size), at, n), with(all(-size), at, n))
		}
	}
	for i, v := range l {
		if !Right(v) {
			t.Error(i, v)
		}
	}
	for i, v := range none() {
		if Right(v) {
			t.Error(i, v)
		}
	}
	// Of a list with room, its numbers alone.
	room := append(all(3), 200, -200)
	if !Right(room[:dims]) || Right(room[:9]) || Right(room[1:9]) || Right(room[:7]) {
		t.Error(room)
	}
}

func TestScore(t *testing.T) {
	up, down := []int{1, 2, 3, 4, 5, 6, 7, 8}, []int{8, 7, 6, 5, 4, 3, 2, 1}
	for i, x := range []struct {
		measure int
		a, b    []int
		want    int
	}{
		{0, all(0), all(0), 0}, {0, all(0), all(1), 0}, {0, all(1), all(1), 8}, {0, all(1), all(-1), -8},
		{1, all(0), all(0), 0}, {1, all(0), all(1), -8}, {1, all(1), all(0), -8}, {1, all(1), all(1), 0}, {1, all(1), all(-1), -32},
		{0, up, up, 204}, {1, up, up, 0},
		{0, up, down, 120}, {0, down, up, 120}, {1, up, down, -168}, {1, down, up, -168},
		{0, all(size), all(size), 129032}, {0, all(-size), all(-size), 129032}, {0, all(size), all(-size), -129032}, {0, all(-size), all(size), -129032},
		{1, all(size), all(size), 0}, {1, all(-size), all(-size), 0}, {1, all(size), all(-size), -516128}, {1, all(-size), all(size), -516128},
		{0, with(all(0), 0, 5), up, 5}, {0, with(all(0), 7, 5), up, 40}, {1, with(all(0), 3, 5), with(all(0), 3, -5), -100},
	} {
		if n, e := Score(x.measure, x.a, x.b); n != x.want || e != api.OK {
			t.Error(i, n, e, x.want)
		}
	}
}

func TestScoreAsPlain(t *testing.T) {
	q := sequence(1)
	for i := range 2000 {
		a, b := q.vector(1+i%size), q.vector(size)
		for measure := range 2 {
			n, e := Score(measure, a, b)
			if e != api.OK || n != plain(measure, a, b, dims) {
				t.Fatal(measure, a, b, n, e)
			}
			if m, e := Score(measure, b, a); e != api.OK || m != n {
				t.Fatal("turned about", measure, a, b, n, m, e)
			}
			if n > 129032 || n < -516128 || measure == 0 && n < -129032 || measure == 1 && n > 0 {
				t.Fatal("no such score", measure, a, b, n)
			}
		}
		own, _ := Score(0, a, a)
		off, _ := Score(1, a, all(0))
		if own != -off {
			t.Fatal(a, own, off)
		}
		if n, e := Score(1, a, a); n != 0 || e != api.OK {
			t.Fatal(a, n, e)
		}
	}
}

func TestScoreRefused(t *testing.T) {
	refused := func(measure int, a, b []int, want api.Errno) {
		t.Helper()
		if n, e := Score(measure, a, b); n != 0 || e != want {
			t.Error(measure, a, b, n, e)
		}
	}
	for _, m := range wrongMeasures() {
		refused(m, all(1), all(2), api.ErrRange)
		refused(m, nil, nil, api.ErrRange)
	}
	for _, v := range none() {
		for m := range 2 {
			refused(m, v, all(1), api.ErrForm)
			refused(m, all(1), v, api.ErrForm)
			refused(m, v, v, api.ErrForm)
			refused(m, v, nil, api.ErrForm)
		}
		for _, m := range wrongMeasures() {
			refused(m, v, all(1), api.ErrRange)
			refused(m, all(1), v, api.ErrRange)
			refused(m, v, v, api.ErrRange)
		}
	}
}

// wrongRows are lists that are no rows, each by one fault alone, wherever it
// stands.
func wrongRows() [][]Row {
	var l [][]Row
	for n := 1; n < 6; n++ {
		right := row(10, slices.Repeat([][]int{all(1)}, n)...)
		put := func(at int, r Row) {
			rows := slices.Clone(right)
			rows[at] = r
			l = append(l, rows)
		}
		for at := range n {
			for _, v := range none() {
				put(at, Row{Doc: 10 + at, V: v})
			}
			for _, doc := range []int{-1, -2, math.MinInt, mostDoc + 1, mostDoc + 2, 1 << 32, math.MaxInt} {
				put(at, Row{Doc: doc, V: all(1)})
			}
			if at > 0 {
				put(at, Row{Doc: 10 + at - 1, V: all(1)})
				put(at, Row{Doc: 10 + at - 1, V: all(2)})
				put(at, Row{Doc: 9, V: all(1)})
				put(at, Row{Doc: 0, V: all(1)})
				put(at-1, Row{Doc: 10 + at, V: all(1)})
				put(at-1, Row{Doc: mostDoc, V: all(1)})
			}
		}
	}
	return append(l, []Row{{}}, make([]Row, 1000))
}

// refusing answers a call that holds what a refused Find must answer, with a
// Count that must stay as it is.
func refusing(t *testing.T) func(measure int, q []int, rows []Row, k int, want api.Errno) {
	c := new(Count)
	return func(measure int, q []int, rows []Row, k int, want api.Errno) {
		t.Helper()
		if l, e := Find(measure, q, rows, k, never(t)); len(l) != 0 || e != want {
			t.Error(measure, q, rows, k, l, e)
		}
		if l, e := c.Find(measure, q, rows, k, never(t)); len(l) != 0 || e != want || c.Numbers() != 0 {
			t.Error(measure, q, rows, k, l, e, c.Numbers())
		}
	}
}

func TestFindRefusedByNumbers(t *testing.T) {
	refused := refusing(t)
	rows := row(3, all(1), all(2))
	for _, m := range wrongMeasures() {
		for _, k := range []int{1, mostFound, 0, 1001} {
			refused(m, all(1), rows, k, api.ErrRange)
			refused(m, all(1), nil, k, api.ErrRange)
			refused(m, nil, rows, k, api.ErrRange)
			refused(m, all(128), row(-1, all(1)), k, api.ErrRange)
		}
	}
	for _, k := range []int{0, -1, math.MinInt, 1001, 1002, 1 << 32, math.MaxInt} {
		for m := range 2 {
			refused(m, all(1), rows, k, api.ErrRange)
			refused(m, all(1), nil, k, api.ErrRange)
			refused(m, nil, rows, k, api.ErrRange)
			refused(m, all(1), row(3, nil), k, api.ErrRange)
			refused(m, all(128), row(-1, all(1)), k, api.ErrRange)
		}
	}
}

func TestFindRefusedByForm(t *testing.T) {
	refused := refusing(t)
	rows := row(3, all(1), all(2))
	for m := range 2 {
		for _, v := range none() {
			refused(m, v, rows, 1, api.ErrForm)
			refused(m, v, nil, mostFound, api.ErrForm)
			refused(m, v, row(3, v), 1, api.ErrForm)
		}
		for _, l := range wrongRows() {
			refused(m, all(1), l, 1, api.ErrForm)
			refused(m, all(1), l, mostFound, api.ErrForm)
			refused(m, nil, l, 1, api.ErrForm)
		}
	}
	for _, l := range wrongRows() {
		refused(2, all(1), l, 1, api.ErrRange)
		refused(-1, all(1), l, 1, api.ErrRange)
		refused(0, all(1), l, 0, api.ErrRange)
		refused(1, all(1), l, 1001, api.ErrRange)
	}
}

// Rows are held to their form where their document mayn't be, or would be given
// up, too.
func TestFindRefusedByRowsThatPlayNoPart(t *testing.T) {
	rows := append(row(0, all(0), all(size)), Row{Doc: 2, V: with(all(size), 7, 128)})
	for m := range 2 {
		for _, may := range filters() {
			if l, e := Find(m, all(0), rows, 1, may); len(l) != 0 || e != api.ErrForm {
				t.Error(m, l, e)
			}
		}
		if l, e := Find(m, all(0), rows, 1, nil); len(l) != 0 || e != api.ErrForm {
			t.Error(m, l, e)
		}
	}
}

func TestFindNothing(t *testing.T) {
	for m := range 2 {
		for _, k := range []int{1, 2, mostFound} {
			for _, rows := range [][]Row{nil, {}} {
				var c Count
				if l, e := c.Find(m, all(1), rows, k, never(t)); len(l) != 0 || e != api.OK || c.Numbers() != 0 {
					t.Error(m, k, l, e, c.Numbers())
				}
				if l, e := Find(m, all(1), rows, k, never(t)); len(l) != 0 || e != api.OK {
					t.Error(m, k, l, e)
				}
			}
		}
	}
}

func TestFindByHand(t *testing.T) {
	rows := []Row{{0, all(2)}, {3, all(-5)}, {4, all(2)}, {8, with(all(0), 0, 100)}, {9, all(0)}, {mostDoc, with(all(0), 7, 100)}}
	for i, x := range []struct {
		measure int
		q       []int
		k       int
		may     func(int) bool
		want    []api.Scored
	}{
		{0, all(1), 1, yes, []api.Scored{{Doc: 8, Score: 100}}},
		{0, all(1), 2, yes, []api.Scored{{Doc: 8, Score: 100}, {Doc: mostDoc, Score: 100}}},
		// The worst that is kept has the same score as what comes behind.
		{0, all(1), 3, yes, []api.Scored{{Doc: 8, Score: 100}, {Doc: mostDoc, Score: 100}, {Doc: 0, Score: 16}}},
		{0, all(1), 6, yes, []api.Scored{{Doc: 8, Score: 100}, {Doc: mostDoc, Score: 100}, {Doc: 0, Score: 16}, {Doc: 4, Score: 16}, {Doc: 9, Score: 0}, {Doc: 3, Score: -40}}},
		{0, all(-1), 2, yes, []api.Scored{{Doc: 3, Score: 40}, {Doc: 9, Score: 0}}},
		{0, all(0), 3, yes, []api.Scored{{Doc: 0}, {Doc: 3}, {Doc: 4}}},
		{0, with(all(0), 7, 2), 1, yes, []api.Scored{{Doc: mostDoc, Score: 200}}},
		{1, all(0), 2, yes, []api.Scored{{Doc: 9, Score: 0}, {Doc: 0, Score: -32}}},
		{1, all(2), 3, yes, []api.Scored{{Doc: 0, Score: 0}, {Doc: 4, Score: 0}, {Doc: 9, Score: -32}}},
		{1, all(2), 1000, yes, []api.Scored{{Doc: 0, Score: 0}, {Doc: 4, Score: 0}, {Doc: 9, Score: -32}, {Doc: 3, Score: -392}, {Doc: 8, Score: -9632}, {Doc: mostDoc, Score: -9632}}},
		{1, with(all(0), 0, 99), 1, yes, []api.Scored{{Doc: 8, Score: -1}}},
		{1, all(2), 1, func(doc int) bool { return doc != 0 && doc != 4 }, []api.Scored{{Doc: 9, Score: -32}}},
		{0, all(1), 9, func(doc int) bool { return doc == mostDoc || doc == 3 }, []api.Scored{{Doc: mostDoc, Score: 100}, {Doc: 3, Score: -40}}},
		{0, all(1), 9, func(int) bool { return false }, nil},
		{1, all(1), 9, func(int) bool { return false }, nil},
	} {
		if l, e := Find(x.measure, x.q, rows, x.k, x.may); !slices.Equal(l, x.want) || e != api.OK {
			t.Error(i, l, e)
		}
		check(t, x.measure, x.q, rows, x.k, x.may)
	}
}

func TestFindAsPlain(t *testing.T) {
	q := sequence(2)
	for i := range 120 {
		n := q.below(40)
		rows := q.rows(n, 1+i%4, []int{1, 3, 20, size}[i%4])
		for _, most := range []int{1, 10, size} {
			v := q.vector(most)
			for _, may := range filters() {
				for _, k := range []int{1, 2, 5, n - 1, n, n + 1, mostFound} {
					if k >= 1 {
						check(t, 0, v, rows, k, may)
						check(t, 1, v, rows, k, may)
					}
				}
			}
		}
	}
}

// What is found is what each document's Score tells, put in order.
func TestFindAsScores(t *testing.T) {
	q := sequence(3)
	rows := q.rows(300, 3, size)
	for i := range 200 {
		v, may, measure := q.vector(size), filters()[i%6], i%2
		var l []api.Scored
		for _, r := range rows {
			n, e := Score(measure, v, r.V)
			if e != api.OK {
				t.Fatal(e)
			}
			if may(r.Doc) {
				l = append(l, api.Scored{Doc: r.Doc, Score: n})
			}
		}
		slices.SortFunc(l, better)
		k := 1 + q.below(320)
		if got, e := Find(measure, v, rows, k, may); e != api.OK || !slices.Equal(got, l[:min(k, len(l))]) {
			t.Fatal(measure, v, k, got, e)
		}
	}
}

func TestFindNearAndFar(t *testing.T) {
	// Vectors that are near one another, or near the query, so that they are
	// given up late.
	q := sequence(4)
	for range 60 {
		v := q.vector(size)
		var vectors [][]int
		for range 30 {
			w := slices.Clone(v)
			for range q.below(4) {
				w[q.below(dims)] = q.below(2*size+1) - size
			}
			vectors = append(vectors, w)
		}
		rows := row(q.below(100), vectors...)
		for k := 1; k < 34; k++ {
			check(t, 0, v, rows, k, yes)
			check(t, 1, v, rows, k, yes)
		}
	}
}

func TestFindTheSameScores(t *testing.T) {
	flat := slices.Repeat([][]int{all(5)}, 20)
	mixed := slices.Concat(flat[:7], [][]int{all(6), all(4)}, flat[:7], [][]int{all(7)}, flat[:3])
	turned := [][]int{with(all(0), 0, 9), with(all(0), 1, 9), with(all(0), 7, 9), with(all(0), 3, -9), with(all(0), 4, 9)}
	for _, vectors := range [][][]int{flat, mixed, turned, slices.Repeat(turned, 5)} {
		for _, v := range [][]int{all(0), all(1), all(-1), all(5), all(size), all(-size), with(all(0), 7, 3)} {
			for k := 1; k < len(vectors)+3; k++ {
				for _, may := range filters() {
					check(t, 0, v, row(0, vectors...), k, may)
					check(t, 1, v, row(0, vectors...), k, may)
				}
			}
		}
	}
	l, e := Find(1, all(0), row(5, flat...), 3, yes)
	if e != api.OK || !slices.Equal(l, []api.Scored{{Doc: 5, Score: -200}, {Doc: 6, Score: -200}, {Doc: 7, Score: -200}}) {
		t.Error(l, e)
	}
}

func TestFindAtEdges(t *testing.T) {
	// The least document and the greatest are rows, alone too.
	for _, rows := range [][]Row{
		{{Doc: 0, V: all(1)}}, {{Doc: mostDoc, V: all(1)}},
		{{Doc: 0, V: all(size)}, {Doc: mostDoc, V: all(-size)}},
		{{Doc: 0, V: all(-size)}, {Doc: 1, V: all(size)}, {Doc: mostDoc - 1, V: all(0)}, {Doc: mostDoc, V: all(size)}},
	} {
		for _, v := range [][]int{all(0), all(size), all(-size), with(all(size), 0, -size)} {
			for _, k := range []int{1, 2, 3, 4, 5, 999, mostFound} {
				for _, may := range filters() {
					check(t, 0, v, rows, k, may)
					check(t, 1, v, rows, k, may)
				}
			}
		}
	}
	for m, want := range [2][]api.Scored{
		{{Doc: 9, Score: 129032}, {Doc: 0, Score: -129032}},
		{{Doc: 9, Score: 0}, {Doc: 0, Score: -516128}},
	} {
		rows := []Row{{Doc: 0, V: all(-size)}, {Doc: 9, V: all(size)}}
		if l, e := Find(m, all(size), rows, 2, yes); e != api.OK || !slices.Equal(l, want) {
			t.Error(m, l, e)
		}
	}
}

func TestFindManyMoreThanAreKept(t *testing.T) {
	q := sequence(5)
	rows := q.rows(3000, 5, size)
	for _, k := range []int{1, 10, 100, 999, mostFound} {
		for m := range 2 {
			if n := check(t, m, q.vector(size), rows, k, func(doc int) bool { return doc%3 != 0 }); n >= dims*2000 {
				t.Error(m, k, "nothing was given up", n)
			}
		}
	}
}

func TestFindWithoutFunction(t *testing.T) {
	for m := range 2 {
		var c Count
		if l, e := c.Find(m, all(1), row(0, all(1), all(2)), 2, nil); len(l) != 0 || e != api.OK || c.Numbers() != 0 {
			t.Error(m, l, e, c.Numbers())
		}
		if l, e := Find(m, all(1), row(0, all(1), all(2)), 2, nil); len(l) != 0 || e != api.OK {
			t.Error(m, l, e)
		}
	}
}

// looked answers how many numbers of one more vector are looked at, behind
// others that are all kept.
func looked(t *testing.T, measure int, q []int, kept [][]int, k int, v []int) int {
	t.Helper()
	return check(t, measure, q, row(0, append(slices.Clone(kept), v)...), k, yes) - dims*len(kept)
}

func TestGivenUpByDifferences(t *testing.T) {
	for at := range dims {
		// The number alone is as far off as the one kept, or farther, or
		// nearer.
		kept := [][]int{with(all(0), 0, 10)}
		for _, x := range []struct{ off, want int }{{10, at + 1}, {-10, at + 1}, {11, at + 1}, {size, at + 1}, {9, dims}, {-9, dims}, {0, dims}} {
			if n := looked(t, 1, all(0), kept, 1, with(all(0), at, x.off)); n != x.want {
				t.Error(at, x, n)
			}
		}
		// So many numbers that are 1 off are kept: of a vector that is 1 off
		// everywhere as many are looked at.
		near := all(3)
		for i := range at + 1 {
			near[dims-1-i] = 2
		}
		if n := looked(t, 1, all(3), [][]int{near}, 1, all(4)); n != at+1 {
			t.Error(at, n)
		}
	}
	// What is the same as the query is never given up, but where another one is,
	// too: behind its first number.
	if n := looked(t, 1, all(7), [][]int{all(6)}, 1, all(7)); n != dims {
		t.Error(n)
	}
	if n := looked(t, 1, all(7), [][]int{all(7)}, 1, all(7)); n != 1 {
		t.Error(n)
	}
}

func TestGivenUpByProducts(t *testing.T) {
	for at := range dims {
		// It is as good as can be, but as bad at one number: behind that it can't
		// come above one whose score is what it could still reach.
		v := with(all(size), at, -size)
		reach := (dims - 2) * size
		for _, x := range []struct{ score, want int }{{reach, at + 1}, {reach + 1, at + 1}, {reach - 1, dims}} {
			if n := looked(t, 0, all(1), [][]int{scored(x.score)}, 1, v); n != x.want {
				t.Error(at, x, n)
			}
			// Signs of the query's numbers play no part in how far they reach.
			w, q, kept := slices.Clone(v), all(1), scored(x.score)
			for j := 1; j < dims; j += 2 {
				w[j], q[j], kept[j] = -w[j], -1, -kept[j]
			}
			if n := looked(t, 0, q, [][]int{kept}, 1, w); n != x.want {
				t.Error(at, x, n)
			}
		}
	}
	// A query that has noughts alone behind a number: what is told there is all.
	for at := range dims {
		q, v := all(0), all(0)
		q[at], v[at] = 1, 4
		if n := looked(t, 0, q, [][]int{with(all(0), at, 5)}, 1, v); n != at+1 {
			t.Error(at, n)
		}
		if n := looked(t, 0, q, [][]int{with(all(0), at, 4)}, 1, v); n != at+1 {
			t.Error(at, n)
		}
		if n := looked(t, 0, q, [][]int{with(all(0), at, 3)}, 1, v); n != dims {
			t.Error(at, n)
		}
	}
	// A query of noughts: whatever comes behind as many as are kept is given up
	// at once.
	if n := looked(t, 0, all(0), [][]int{all(1), all(2)}, 2, all(size)); n != 1 {
		t.Error(n)
	}
}

// scored answers a vector whose numbers' sum is so much.
func scored(sum int) []int {
	v := all(0)
	for i := range v {
		v[i] = max(-size, min(size, sum))
		sum -= v[i]
	}
	return v
}

// Nothing is given up while there is room, however bad it is, and what mayn't be
// takes none.
func TestNotGivenUpWithRoom(t *testing.T) {
	rows := row(0, all(size), all(-size), all(size), all(-size), all(0))
	for m := range 2 {
		for k := 5; k < 8; k++ {
			if n := check(t, m, all(size), rows, k, yes); n != 5*dims {
				t.Error(m, k, n)
			}
		}
		if n := check(t, m, all(size), rows, 4, yes); n != 4*dims+dims {
			t.Error(m, n)
		}
		if n := check(t, m, all(size), rows, 2, func(doc int) bool { return doc == 0 || doc == 3 }); n != 2*dims {
			t.Error(m, n)
		}
		if n := check(t, m, all(size), rows, 1, func(doc int) bool { return doc == 0 || doc == 3 }); n != dims+1 {
			t.Error(m, n)
		}
	}
}

func TestNumbersAddUp(t *testing.T) {
	rows := row(0, all(0), all(size), all(-size), all(size), with(all(0), 0, 1))
	var c Count
	if c.Numbers() != 0 {
		t.Error(c.Numbers())
	}
	for i := range 4 {
		c.Find(1, all(0), rows, 1, yes)
		if c.Numbers() != 12*(i+1) {
			t.Error(i, c.Numbers())
		}
	}
	for range 3 {
		// What is refused looks at nothing, and takes nothing off.
		c.Find(2, all(0), rows, 1, yes)
		c.Find(1, all(0), rows, 0, yes)
		c.Find(1, nil, rows, 1, yes)
		c.Find(1, all(0), append(row(0, all(1), all(1)), Row{Doc: 1, V: all(1)}), 1, yes)
		c.Find(1, all(0), rows, 1, func(int) bool { return false })
		c.Find(1, all(0), nil, 1, yes)
		if c.Numbers() != 48 {
			t.Error(c.Numbers())
		}
	}
	c.Find(1, all(0), rows, 5, yes)
	if c.Numbers() != 88 {
		t.Error(c.Numbers())
	}
	c.Find(1, all(0), rows, 5, func(doc int) bool { return doc == 2 })
	if c.Numbers() != 96 {
		t.Error(c.Numbers())
	}
	// Another one counts for itself.
	var d Count
	d.Find(1, all(0), rows, 1, yes)
	Find(1, all(0), rows, 1, yes)
	if c.Numbers() != 96 || d.Numbers() != 12 {
		t.Error(c.Numbers(), d.Numbers())
	}
}

func TestHandedInUnchanged(t *testing.T) {
	q := sequence(6)
	rows, vector := q.rows(30, 3, size), append(q.vector(size), 99, 98)
	for i := range rows {
		rows[i].V = append(rows[i].V, 77, 76)[:dims]
	}
	kept, asked := slices.Clone(rows), slices.Clone(vector)
	var vectors [][]int
	for _, r := range rows {
		vectors = append(vectors, slices.Clone(r.V[:dims+2]))
	}
	for m := range 2 {
		Right(vector[:dims])
		Score(m, vector[:dims], rows[3].V)
		Score(m, rows[3].V, vector[:dims])
		Find(m, vector[:dims], rows[:20], 3, yes)
		new(Count).Find(m, vector[:dims], rows[:20], 3, yes)
		Find(m, vector[:dims], rows[:20], 0, yes)
		if !slices.Equal(vector, asked) {
			t.Fatal("the query changed", vector)
		}
		for i, r := range rows {
			if r.Doc != kept[i].Doc || &r.V[0] != &kept[i].V[0] || len(r.V) != dims || !slices.Equal(r.V[:dims+2], vectors[i]) {
				t.Fatal("a row changed", i, r)
			}
		}
	}
}

// What was handed in may be changed behind a call: nothing of it is kept.
func TestHandedInNotKept(t *testing.T) {
	rows, q := row(0, all(1), all(2), all(3)), all(1)
	for m := range 2 {
		var c Count
		first, _ := c.Find(m, q, rows, 2, yes)
		want := slices.Clone(first)
		other := row(5, all(9), all(8))
		c.Find(m, all(9), other, 2, yes)
		other[0].V[0], other[1].Doc = 55, 66
		if l, e := c.Find(m, q, rows, 2, yes); e != api.OK || !slices.Equal(l, want) || !slices.Equal(first, want) {
			t.Error(m, l, e, first)
		}
	}
}

func TestAnswersAreNew(t *testing.T) {
	rows := row(0, all(1), all(2), all(3), all(4), all(5))
	for m := range 2 {
		var c Count
		first, _ := c.Find(m, all(1), rows, 3, yes)
		want := slices.Clone(first)
		room := first[:cap(first)]
		for i := range room {
			room[i] = api.Scored{Doc: 99, Score: 99}
		}
		second, _ := c.Find(m, all(1), rows, 3, yes)
		third, _ := Find(m, all(1), rows, 3, yes)
		if !slices.Equal(second, want) || !slices.Equal(third, want) || first[0].Doc != 99 {
			t.Error(m, first, second, third)
		}
	}
}

func TestCountBySeveral(t *testing.T) {
	rows := row(0, slices.Repeat([][]int{all(3)}, 200)...)
	var c Count
	var wait sync.WaitGroup
	for i := range 8 {
		wait.Go(func() {
			for range 20 {
				c.Find(i%2, all(3), rows, 200, yes)
			}
		})
	}
	wait.Wait()
	if c.Numbers() != 8*20*200*dims {
		t.Error(c.Numbers())
	}
}

// A function that finds, too, with the same Count and the same rows.
func TestFindWithinFind(t *testing.T) {
	rows := row(0, all(1), all(5), all(3))
	for m := range 2 {
		var c Count
		l, e := c.Find(m, all(6), rows, 2, func(int) bool {
			l, e := c.Find(m, all(6), rows, 1, yes)
			return e == api.OK && len(l) == 1 && l[0].Doc == 1
		})
		if e != api.OK || len(l) != 2 || l[0].Doc != 1 || l[1].Doc != 2 {
			t.Error(m, l, e)
		}
	}
}
