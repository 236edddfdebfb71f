package traverse

import (
	"math"
	"slices"
	"sync"
	"testing"

	"rankloft/api"
	"rankloft/posting"
)

const (
	mostDoc    = 1<<31 - 1
	mostWeight = 65535
	mostParts  = 64
	mostFound  = 1000
)

// sequence is a fixed row of numbers without an order that shows.
type sequence uint64

// below answers a number of 0 to n - 1.
func (q *sequence) below(n int) int {
	*q = *q*6364136223846793005 + 1442695040888963407
	x := uint64(*q)
	return int((x ^ x>>29) % uint64(n))
}

// posts answers n posts with steps of 1 to step from one document to the next,
// and weights of 1 to most.
func (q *sequence) posts(n, step, most int) []api.Post {
	l, doc := make([]api.Post, n), -1
	for i := range l {
		doc += 1 + q.below(step)
		l[i] = api.Post{Doc: doc, Weight: 1 + q.below(most)}
	}
	return l
}

// made answers a part of posts that are a list.
func made(weight int, posts ...api.Post) Part {
	l, e := posting.Build(posts)
	if e != api.OK {
		panic("no list")
	}
	return Part{List: l, Weight: weight}
}

// row answers posts of documents from first on, one of each weight.
func row(first int, weights ...int) []api.Post {
	var l []api.Post
	for i, w := range weights {
		l = append(l, api.Post{Doc: first + i, Weight: w})
	}
	return l
}

// query answers n parts of lists of up to length posts, and weights up to most.
// Some lists come twice, and some have none.
func (q *sequence) query(n, length, step, most int) []Part {
	var l []Part
	for range n {
		p := made(1+q.below(most), q.posts(q.below(length+1), step, most)...)
		if len(l) > 0 && q.below(8) == 0 {
			p.List = l[q.below(len(l))].List
		}
		l = append(l, p)
	}
	return l
}

// queries are what most tests go through.
func queries() [][]Part {
	q := sequence(1)
	l := [][]Part{nil, {}}
	for range 40 {
		for n := 1; n < 8; n++ {
			l = append(l, q.query(n, 30, 2, 3), q.query(n, 60, 4, 20), q.query(n, 12, 9, mostWeight))
		}
	}
	for range 4 {
		l = append(l, q.query(1, 300, 1, 1), q.query(3, 300, 3, 1000), q.query(20, 200, 5, 100), q.query(mostParts, 50, 8, mostWeight))
	}
	return append(l, steep()...)
}

// steep are queries whose greatest weights stand in one block alone, of each
// list in another, early or late.
func steep() [][]Part {
	var l [][]Part
	for great := 0; great < 40; great += 3 {
		for other := 0; other < 40; other += 7 {
			a, b := make([]int, 40), make([]int, 40)
			for i := range a {
				a[i], b[i] = 1+i%3, 1+i%2
			}
			a[great], b[other] = 50, 40
			l = append(l, []Part{made(1, row(0, a...)...)}, []Part{made(1, row(0, a...)...), made(2, row(5, b...)...), made(1, row(20, 1, 1, 1)...)})
		}
	}
	return l
}

// filters are functions that let documents be.
func filters() []func(int) bool {
	return []func(int) bool{
		func(int) bool { return true },
		func(int) bool { return false },
		func(doc int) bool { return doc%2 == 1 },
		func(doc int) bool { return doc%5 != 0 },
		func(doc int) bool { return doc > 10 },
		func(doc int) bool { return doc == 7 },
	}
}

// ways are the four.
func ways() []Way { return []Way{All, Maxima, Pivot, Blocks} }

// plain answers each document's score, counted post by post.
func plain(q []Part) map[int]int {
	scores := map[int]int{}
	for _, p := range q {
		for _, x := range p.List.Posts() {
			scores[x.Doc] += p.Weight * x.Weight
		}
	}
	return scores
}

// best answers what is found, and of how many documents that may be.
func best(scores map[int]int, k int, may func(int) bool) ([]api.Scored, int) {
	var l []api.Scored
	for doc, score := range scores {
		if may(doc) {
			l = append(l, api.Scored{Doc: doc, Score: score})
		}
	}
	slices.SortFunc(l, func(a, b api.Scored) int {
		if a.Score != b.Score {
			return b.Score - a.Score
		}
		return a.Doc - b.Doc
	})
	return l[:min(k, len(l))], len(l)
}

// check finds in all ways, by a Count and without, and holds it against a plain
// count; it answers how many documents each way scored.
func check(t *testing.T, q []Part, k int, may func(int) bool) [4]int {
	t.Helper()
	scores := plain(q)
	want, all := best(scores, k, may)
	var scored [4]int
	for _, w := range ways() {
		before := map[int]bool{}
		asking := func(doc int) bool {
			if _, ok := scores[doc]; !ok || before[doc] {
				t.Errorf("way %d asks of document %d, which no list has, or twice", w, doc)
			}
			before[doc] = true
			return may(doc)
		}
		if l, e := Find(w, q, k, asking); e != api.OK || !slices.Equal(l, want) {
			t.Fatalf("way %d, %d parts, k %d: found %v, %d; want %v", w, len(q), k, l, e, want)
		}
		var c Count
		if l, e := c.Find(w, q, k, may); e != api.OK || !slices.Equal(l, want) {
			t.Fatalf("way %d, %d parts, k %d: a Count found %v, %d; want %v", w, len(q), k, l, e, want)
		}
		n := c.Scored()
		if w == All && n != all || n > all || n < len(want) {
			t.Fatalf("way %d, %d parts, k %d: scored %d of %d", w, len(q), k, n, all)
		}
		scored[w] = n
	}
	return scored
}

func TestWaysAreCounted(t *testing.T) {
	if All != 0 || Maxima != 1 || Pivot != 2 || Blocks != 3 {
		t.Error(All, Maxima, Pivot, Blocks)
	}
}

// asked is a query, and of how many documents.
type asked struct {
	q []Part
	k int
}

// wrong are those that aren't right, each by one fault alone.
func wrong() []asked {
	right := made(1, api.Post{Doc: 3, Weight: 4})
	l := []asked{
		{nil, 0}, {nil, -1}, {nil, math.MinInt}, {nil, mostFound + 1}, {nil, math.MaxInt},
		{[]Part{right}, 0}, {[]Part{right}, mostFound + 1},
		{slices.Repeat([]Part{right}, mostParts+1), 1}, {slices.Repeat([]Part{right}, 1000), 1},
		{make([]Part, mostParts+1), 1},
	}
	for _, p := range []Part{
		{}, {Weight: 1}, {Weight: mostWeight}, {List: right.List},
		{List: right.List, Weight: -1}, {List: right.List, Weight: math.MinInt},
		{List: right.List, Weight: mostWeight + 1}, {List: right.List, Weight: math.MaxInt},
	} {
		for n := range 4 {
			for at := range n + 1 {
				l = append(l, asked{slices.Insert(slices.Repeat([]Part{right}, n), at, p), 1})
			}
		}
		q := slices.Repeat([]Part{right}, mostParts)
		q[mostParts-1] = p
		l = append(l, asked{q, mostFound})
	}
	return l
}

func TestRight(t *testing.T) {
	one, none := made(1, api.Post{Doc: 3, Weight: 4}), made(mostWeight)
	for i, q := range [][]Part{nil, {}, {one}, {none}, {one, none, one}, slices.Repeat([]Part{one}, mostParts), slices.Repeat([]Part{none}, mostParts)} {
		for _, k := range []int{1, 2, mostFound - 1, mostFound} {
			if !Right(q, k) {
				t.Error(i, k)
			}
		}
		for _, k := range []int{0, -1, mostFound + 1, math.MinInt, math.MaxInt} {
			if Right(q, k) {
				t.Error(i, k)
			}
		}
	}
	for i, x := range wrong() {
		if Right(x.q, x.k) {
			t.Error(i, len(x.q), x.k)
		}
	}
}

func TestRefused(t *testing.T) {
	never := func(int) bool { t.Error("asked, though refused"); return true }
	var c Count
	refused := func(i int, w Way, q []Part, k int) {
		t.Helper()
		if l, e := Find(w, q, k, never); len(l) != 0 || e != api.ErrRange {
			t.Error(i, w, l, e)
		}
		if l, e := c.Find(w, q, k, never); len(l) != 0 || e != api.ErrRange || c.Scored() != 0 {
			t.Error(i, w, l, e, c.Scored())
		}
	}
	for i, x := range wrong() {
		for _, w := range ways() {
			refused(i, w, x.q, x.k)
		}
	}
	q := []Part{made(1, api.Post{Doc: 3, Weight: 4})}
	for i, w := range []Way{-1, -2, math.MinInt, 4, 5, 256, math.MaxInt} {
		refused(i, w, q, 1)
		refused(i, w, nil, 1)
		refused(i, w, q, 0)
	}
}

func TestFindNothing(t *testing.T) {
	none := made(3)
	for _, q := range [][]Part{nil, {}, {none}, {none, none}, slices.Repeat([]Part{none}, mostParts)} {
		for _, k := range []int{1, 2, mostFound} {
			for _, w := range ways() {
				l, e := Find(w, q, k, func(int) bool { t.Error("asked of no document"); return true })
				if len(l) != 0 || e != api.OK {
					t.Error(w, l, e)
				}
			}
		}
	}
}

func TestFindByHand(t *testing.T) {
	yes := func(int) bool { return true }
	a := made(2, api.Post{Doc: 1, Weight: 5}, api.Post{Doc: 2, Weight: 3}, api.Post{Doc: 9, Weight: 1})
	b := made(1, api.Post{Doc: 2, Weight: 9}, api.Post{Doc: 4, Weight: 10}, api.Post{Doc: 9, Weight: 8})
	c := made(3, api.Post{Doc: 0, Weight: 1}, api.Post{Doc: mostDoc, Weight: 1})
	for i, x := range []struct {
		q    []Part
		k    int
		may  func(int) bool
		want []api.Scored
	}{
		{[]Part{a}, 1, yes, []api.Scored{{Doc: 1, Score: 10}}},
		{[]Part{a}, 3, yes, []api.Scored{{Doc: 1, Score: 10}, {Doc: 2, Score: 6}, {Doc: 9, Score: 2}}},
		{[]Part{a, b}, 1, yes, []api.Scored{{Doc: 2, Score: 15}}},
		// Three have the same score: what comes behind the worst stays out.
		{[]Part{a, b}, 2, yes, []api.Scored{{Doc: 2, Score: 15}, {Doc: 1, Score: 10}}},
		{[]Part{b, a}, 3, yes, []api.Scored{{Doc: 2, Score: 15}, {Doc: 1, Score: 10}, {Doc: 4, Score: 10}}},
		{[]Part{a, b}, 1000, yes, []api.Scored{{Doc: 2, Score: 15}, {Doc: 1, Score: 10}, {Doc: 4, Score: 10}, {Doc: 9, Score: 10}}},
		{[]Part{a, b}, 1, func(doc int) bool { return doc != 2 }, []api.Scored{{Doc: 1, Score: 10}}},
		{[]Part{a, b}, 5, func(int) bool { return false }, nil},
		{[]Part{a, a}, 2, yes, []api.Scored{{Doc: 1, Score: 20}, {Doc: 2, Score: 12}}},
		{[]Part{a, b, c}, 5, yes, []api.Scored{{Doc: 2, Score: 15}, {Doc: 1, Score: 10}, {Doc: 4, Score: 10}, {Doc: 9, Score: 10}, {Doc: 0, Score: 3}}},
		{[]Part{c}, 2, yes, []api.Scored{{Doc: 0, Score: 3}, {Doc: mostDoc, Score: 3}}},
		{[]Part{c}, 2, func(doc int) bool { return doc == mostDoc }, []api.Scored{{Doc: mostDoc, Score: 3}}},
	} {
		for _, w := range ways() {
			if l, e := Find(w, x.q, x.k, x.may); !slices.Equal(l, x.want) || e != api.OK {
				t.Error(i, w, l, e)
			}
		}
	}
}

func TestFindAsPlain(t *testing.T) {
	for _, q := range queries() {
		n := len(plain(q))
		for _, may := range filters() {
			for _, k := range []int{1, 2, 3, 10, n - 1, n, n + 1, mostFound} {
				if k >= 1 && k <= mostFound {
					check(t, q, k, may)
				}
			}
		}
	}
}

func TestFindOfOneAndOfMany(t *testing.T) {
	q := sequence(2)
	yes := func(int) bool { return true }
	for n := range 30 {
		one := made(1+q.below(9), q.posts(n, 2, 5)...)
		for k := 1; k < n+3; k++ {
			check(t, []Part{one}, k, yes)
			check(t, []Part{one, one}, k, yes)
			// Lists that share no document, the one ahead of the other, and
			// in turns.
			check(t, []Part{one, made(1, row(100, 1, 2, 3, 4, 5)...)}, k, yes)
			check(t, []Part{made(2, row(200, 3, 3, 3, 3, 3)...), made(3, row(100, 2, 2, 2, 2, 2)...)}, k, yes)
		}
	}
	odd, even := made(1), made(1)
	for d := range 50 {
		p := api.Post{Doc: d, Weight: 1 + d*7%11}
		odd, even = even, made(1, append(odd.List.Posts(), p)...)
	}
	for k := 1; k < 52; k++ {
		check(t, []Part{odd, even}, k, yes)
	}
}

func TestFindManyMoreThanAreKept(t *testing.T) {
	q := sequence(3)
	long := made(1, q.posts(5000, 3, 50)...)
	other := made(7, q.posts(3000, 5, 50)...)
	for _, k := range []int{1, 10, 999, mostFound} {
		check(t, []Part{long, other}, k, func(doc int) bool { return doc%3 != 0 })
	}
}

func TestFindAtEdges(t *testing.T) {
	ends := made(1, api.Post{Doc: 0, Weight: 1}, api.Post{Doc: 1, Weight: mostWeight}, api.Post{Doc: mostDoc - 1, Weight: 2}, api.Post{Doc: mostDoc, Weight: mostWeight})
	last := made(mostWeight, api.Post{Doc: mostDoc, Weight: 1})
	early := made(5, row(0, 9, 1, 1, 1, 1, 1, 1, 1, 1)...)
	for _, q := range [][]Part{{ends}, {last}, {ends, last}, {last, ends, early}, {early, ends}} {
		for k := 1; k < 14; k++ {
			for _, may := range filters() {
				check(t, q, k, may)
			}
		}
	}
}

func TestFindTheSameScores(t *testing.T) {
	flat := slices.Repeat([]int{2}, 30)
	for _, q := range [][]Part{
		{made(3, row(0, flat...)...)},
		{made(3, row(0, flat...)...), made(3, row(30, flat...)...)},
		{made(3, row(30, flat...)...), made(3, row(0, flat...)...)},
		{made(3, row(0, flat...)...), made(1, row(12, flat...)...), made(2, row(25, flat...)...)},
		{made(6, row(0, slices.Repeat([]int{1}, 30)...)...), made(3, row(15, flat...)...), made(2, row(40, 3, 3, 3)...)},
	} {
		for k := 1; k < 60; k++ {
			for _, may := range filters() {
				check(t, q, k, may)
			}
		}
	}
}

func TestFindGreatestScores(t *testing.T) {
	full := made(mostWeight, row(mostDoc-9, slices.Repeat([]int{mostWeight}, 10)...)...)
	q := slices.Repeat([]Part{full}, mostParts)
	const greatest = mostParts * mostWeight * mostWeight
	for _, w := range ways() {
		l, e := Find(w, q, 2, func(int) bool { return true })
		if e != api.OK || !slices.Equal(l, []api.Scored{{Doc: mostDoc - 9, Score: greatest}, {Doc: mostDoc - 8, Score: greatest}}) {
			t.Error(w, l, e)
		}
	}
	if s := Score(q, mostDoc); s != greatest {
		t.Error(s)
	}
	for k := 1; k < 12; k++ {
		check(t, q, k, func(int) bool { return true })
		check(t, append(q[:mostParts-1:mostParts-1], made(mostWeight, api.Post{Doc: mostDoc, Weight: mostWeight})), k, func(int) bool { return true })
	}
}

func TestFindWithoutFunction(t *testing.T) {
	for _, w := range ways() {
		var c Count
		if l, e := c.Find(w, []Part{made(1, row(0, 1, 2, 3)...)}, 2, nil); len(l) != 0 || e != api.OK || c.Scored() != 0 {
			t.Error(w, l, e, c.Scored())
		}
	}
}

func TestScore(t *testing.T) {
	a := made(2, api.Post{Doc: 0, Weight: 5}, api.Post{Doc: 2, Weight: 3}, api.Post{Doc: 9, Weight: 1})
	b := made(1, api.Post{Doc: 2, Weight: 9}, api.Post{Doc: 4, Weight: 10}, api.Post{Doc: mostDoc, Weight: 8})
	c := made(4, api.Post{Doc: 2, Weight: 1})
	for i, x := range []struct {
		q         []Part
		doc, want int
	}{
		{nil, 0, 0}, {[]Part{made(1)}, 0, 0},
		{[]Part{a, b, c}, 2, 19}, {[]Part{c, b, a}, 2, 19}, {[]Part{a, a}, 2, 12},
		{[]Part{a, b, c}, 0, 10}, {[]Part{a, b, c}, 9, 2}, {[]Part{a, b, c}, 4, 10}, {[]Part{a, b, c}, mostDoc, 8},
		{[]Part{a, b, c}, 1, 0}, {[]Part{a, b, c}, 3, 0}, {[]Part{a, b, c}, 10, 0}, {[]Part{a, b, c}, mostDoc - 1, 0},
		{[]Part{a, b, c}, -1, 0}, {[]Part{a, b, c}, -2, 0}, {[]Part{a, b, c}, math.MinInt, 0},
		{[]Part{a, b, c}, mostDoc + 1, 0}, {[]Part{a, b, c}, 1 << 32, 0}, {[]Part{a, b, c}, math.MaxInt, 0},
		{slices.Repeat([]Part{a}, mostParts), 2, 6 * mostParts},
		{slices.Repeat([]Part{a}, mostParts+1), 2, 0},
	} {
		if s := Score(x.q, x.doc); s != x.want {
			t.Error(i, s, x.want)
		}
	}
	for i, x := range wrong() {
		if s := Score(x.q, 3); s != 0 && !Right(x.q, 1) {
			t.Error(i, s)
		}
	}
	for _, q := range queries() {
		scores := plain(q)
		for doc := -2; doc < 150; doc++ {
			if s := Score(q, doc); s != scores[doc] {
				t.Fatal(doc, s, scores[doc])
			}
		}
	}
}

func TestCountAddsUp(t *testing.T) {
	yes := func(int) bool { return true }
	q := []Part{made(2, row(0, 1, 2, 3, 4, 5, 6, 7)...), made(1, row(5, 1, 1, 1, 1)...)}
	var c Count
	if c.Scored() != 0 {
		t.Error(c.Scored())
	}
	for i := range 4 {
		c.Find(All, q, 1+i, yes)
		if c.Scored() != 9*(i+1) {
			t.Error(i, c.Scored())
		}
	}
	c.Find(All, q, 3, func(doc int) bool { return doc < 4 })
	if c.Scored() != 40 {
		t.Error(c.Scored())
	}
	for _, w := range ways() {
		// What is refused scores nothing, and takes nothing off.
		c.Find(w, q, 0, yes)
		c.Find(w+4, q, 1, yes)
		c.Find(w, q, 5, func(int) bool { return false })
		c.Find(w, nil, 5, yes)
		if c.Scored() != 40 {
			t.Error(w, c.Scored())
		}
	}
	for _, w := range ways() {
		var one, two Count
		one.Find(w, q, 3, yes)
		two.Find(w, q, 3, yes)
		if two.Scored() != one.Scored() {
			t.Error(w, one.Scored(), two.Scored())
		}
		two.Find(w, q, 3, yes)
		if two.Scored() != 2*one.Scored() {
			t.Error(w, one.Scored(), two.Scored())
		}
	}
}

// Each way passes over what it is there to pass over.
func TestPassedOver(t *testing.T) {
	yes := func(int) bool { return true }
	fall, ones := []int{}, slices.Repeat([]int{1}, 40)
	for i := range 40 {
		fall = append(fall, 40-i)
	}
	odd := slices.Clone(ones)
	odd[0], odd[38] = 9, 9
	for i, x := range []struct {
		q    []Part
		k    int
		want [4]int
	}{
		// No other document can come above the first one.
		{[]Part{made(1, row(0, ones...)...)}, 1, [4]int{40, 1, 1, 1}},
		// Documents can, but for the blocks' own greatest weights.
		{[]Part{made(1, row(0, fall...)...)}, 2, [4]int{40, 40, 40, 4}},
		// A document of the second list alone can't, from the first one on.
		{[]Part{made(9, row(0, 1, 2, 3)...), made(1, row(0, ones...)...)}, 1, [4]int{40, 3, 3, 3}},
		// What could have but the worst one's score is given up, whole blocks
		// too.
		{[]Part{made(1, row(0, 5, 5, 9)...), made(1, row(0, 1, 1)...)}, 1, [4]int{3, 2, 3, 3}},
		{[]Part{made(1, row(0, 5, 1, 1, 1, 5, 1, 1, 1, 9)...)}, 1, [4]int{9, 9, 9, 2}},
		// Behind document 0 only one that both lists have can come above it:
		// 30 to 38 by their greatest weights, 36 to 38 by their blocks', and 38
		// by what the first list has of it.
		{[]Part{made(1, row(0, odd...)...), made(1, row(30, ones...)...)}, 1, [4]int{70, 2, 10, 4}},
	} {
		if got := check(t, x.q, x.k, yes); got != x.want {
			t.Error(i, got, x.want)
		}
	}
}

func TestPassedOverInAll(t *testing.T) {
	var sum [4]int
	for _, q := range queries() {
		for i, n := range check(t, q, 2, func(int) bool { return true }) {
			sum[i] += n
		}
	}
	if sum[Maxima] >= sum[All] || sum[Pivot] >= sum[All] || sum[Blocks] >= sum[Pivot] {
		t.Error(sum)
	}
}

func TestHandedInUnchanged(t *testing.T) {
	q := sequence(4)
	room := q.query(9, 40, 3, 20)
	kept := slices.Clone(room)
	var posts [][]api.Post
	for _, p := range room {
		posts = append(posts, p.List.Posts())
	}
	for _, w := range ways() {
		Right(room[:6], 3)
		Find(w, room[:6], 3, func(int) bool { return true })
		new(Count).Find(w, room[:6], 3, func(int) bool { return true })
		Score(room[:6], 5)
		if !slices.Equal(room, kept) {
			t.Fatal("the query changed")
		}
		for i, p := range room {
			if !slices.Equal(p.List.Posts(), posts[i]) {
				t.Fatal("a list changed")
			}
		}
	}
}

func TestAnswersAreNew(t *testing.T) {
	q := []Part{made(2, row(0, 1, 2, 3, 4, 5, 6, 7)...)}
	yes := func(int) bool { return true }
	for _, w := range ways() {
		var c Count
		first, _ := c.Find(w, q, 3, yes)
		want := slices.Clone(first)
		room := first[:cap(first)]
		for i := range room {
			room[i] = api.Scored{Doc: 99, Score: 99}
		}
		second, _ := c.Find(w, q, 3, yes)
		if !slices.Equal(second, want) || first[0].Doc != 99 {
			t.Error(w, first, second)
		}
	}
}

func TestCountBySeveral(t *testing.T) {
	q := []Part{made(2, row(0, slices.Repeat([]int{3}, 500)...)...)}
	var c Count
	var wait sync.WaitGroup
	for range 8 {
		wait.Go(func() {
			for range 20 {
				c.Find(All, q, 5, func(int) bool { return true })
			}
		})
	}
	wait.Wait()
	if c.Scored() != 8*20*500 {
		t.Error(c.Scored())
	}
}

// A function that finds, too, with the same Count and the same lists.
func TestFindWithinFind(t *testing.T) {
	q := []Part{made(2, row(0, 1, 2, 3, 4, 5, 6, 7)...), made(1, row(3, 9, 9)...)}
	for _, w := range ways() {
		var c Count
		l, e := c.Find(w, q, 2, func(int) bool {
			l, e := c.Find(w, q, 1, func(int) bool { return true })
			return e == api.OK && slices.Equal(l, []api.Scored{{Doc: 4, Score: 19}})
		})
		if e != api.OK || !slices.Equal(l, []api.Scored{{Doc: 4, Score: 19}, {Doc: 3, Score: 17}}) {
			t.Error(w, l, e)
		}
	}
}
