package hybrid

import (
	"math"
	"slices"
	"strconv"
	"testing"

	"rankloft/api"
	"rankloft/doc"
	"rankloft/vdisk"
)

// good answers a right query of a kind, with what no kind but its own asks as well.
func good(kind int) Query {
	return Query{Kind: kind, Terms: terms(1, 2, 5, 3), V: vec(2, -1), K: 10, Depth: 10, C: 60, A: 1, B: 1}
}

// few are documents with and without the terms of good.
func few() []doc.Record {
	return []doc.Record{
		{Doc: 0, Terms: terms(1, 5), V: vec(3), Tags: 1},
		{Doc: 4, Terms: terms(0, 9, 1, 2, 5, 4), V: vec(9, 1), Tags: 3},
		{Doc: 7, V: vec(-1), Tags: 255},
		{Doc: 8, Terms: terms(5, 7), V: vec(0, -100)},
		{Doc: mostDoc, Terms: terms(7, 65535), V: vec(127, -127, 127, -127, 1, 2, 3, 4), Tags: 2},
	}
}

func TestOpen(t *testing.T) {
	d := newDisk(t, mostQuota)
	e := opened(t, d)
	if len(e.Docs()) != 0 || e.Served() != 0 || d.Effects() != 0 || len(d.List()) != 0 {
		t.Error(e.Docs(), e.Served(), d.Effects(), d.List())
	}
	d.Crash(0)
	if e, f := Open(d); e != nil || f != api.ErrDown {
		t.Error(e, f)
	}
	d.Start()
	holds(t, opened(t, d), newPlain())
}

// A disk that isn't as it was written is refused by layer 11's error.
func TestOpenCorrupt(t *testing.T) {
	right := []string{"man", sealed("\x00\x01\x00"), "seg.0", sealed("\x00")}
	for i, files := range [][]string{
		{"man", ""}, {"man", "\x00\x00"}, {"man", sealed("")}, {"man", sealed("\x00\x01\x00")},
		{"man", sealed("\x00\x01\x00"), "seg.0", "\x00"}, {"man", sealed("\x00\x01\x00"), "seg.0", sealed("\x01")}, {"man", sealed("\x00\x01\x01"), "seg.0", sealed("\x00")},
		right,
	} {
		d := newDisk(t, mostQuota)
		for j := 0; j < len(files); j += 2 {
			d.Append(files[j], files[j+1])
		}
		e, f := Open(d)
		if is := i == 7; is != (e != nil) || is != (f == api.OK) || !is && f != api.ErrCorrupt {
			t.Error(i, e, f)
		}
		d.Crash(0)
		if e, f := Open(d); e != nil || f != api.ErrDown {
			t.Error(i, e, f)
		}
	}
}

// What an engine did is there for the next one.
func TestOpenTells(t *testing.T) {
	d := newDisk(t, mostQuota)
	e, p := opened(t, d), newPlain()
	for i, r := range few() {
		serves(t, e, p, puts(r))
		if i%2 == 0 {
			serves(t, e, p, flushes())
		}
		holds(t, opened(t, d), p)
	}
	if n := opened(t, d).Served(); n != 0 {
		t.Error(n)
	}
}

// Each kind, way and measure, of no documents, one, and many.
func TestAskEach(t *testing.T) {
	for n := range len(few()) + 1 {
		e, p := engineOf(t, few()[:n]...)
		for i := range 4 * 4 * 2 {
			q := good(i % 4)
			q.Way, q.Measure = i/4%4, i/16
			asksAs(t, e, p, q)
			for k := 1; k < 8; k++ {
				q.K = k
				asksAs(t, e, p, q)
				for depth := 1; depth < 8; depth++ {
					q.Depth = depth
					asksAs(t, e, p, q)
				}
			}
			if l, _ := e.Ask(q); n == 0 && len(l) != 0 {
				t.Error(l)
			}
		}
	}
}

// What the words say, by hand.
func TestAskByHand(t *testing.T) {
	e, _ := engineOf(t, few()...)
	q := good(0)
	finds(t, e, q, 8, 21, 1, 4, 16, 1, 0, 10, 1)
	q.K = 1
	finds(t, e, q, 8, 21, 1)
	q.Kind, q.K = 1, 3
	finds(t, e, q, mostDoc, 381, 1, 8, 100, 1, 4, 17, 1)
	q.Measure = 1
	finds(t, e, q, 0, -2, 1, 7, -10, 1, 4, -53, 1)
	// The sparse list is 8, 4, 0, the dense one 0, 7, 4, 8.
	q = good(2)
	q.Measure, q.C, q.Depth = 1, 1, 4
	finds(t, e, q, 0, 3, 4, 8, 7, 10, 4, 7, 12, 7, 1, 3)
	q.Depth = 2
	finds(t, e, q, 0, 1, 2, 8, 1, 2, 4, 1, 3, 7, 1, 3)
	q.Depth, q.K = 1, 1
	finds(t, e, q, 0, 1, 2)
	// Of true scores: 0 is at 10 and -2, 4 at 16 and -53, 7 at 0 and -10, 8 at 21
	// and -9805.
	q = good(3)
	q.Measure, q.A, q.B = 1, 10, 3
	q.Depth = 4
	finds(t, e, q, 0, 94, 1, 4, 1, 1, 7, -30, 1, 8, -29205, 1)
	q.Depth = 1
	finds(t, e, q, 0, 94, 1, 8, -29205, 1)
	q.A, q.B, q.Depth = 0, 1, 2
	finds(t, e, q, 0, -2, 1, 7, -10, 1, 4, -53, 1, 8, -9805, 1)
	q.A, q.B = 1, 0
	finds(t, e, q, 8, 21, 1, 4, 16, 1, 0, 10, 1, 7, 0, 1)
}

// A document that is first in both lists is first by ranks.
func TestFirstInBoth(t *testing.T) {
	for seed := range 400 {
		s := sequence(seed)
		var l []doc.Record
		for n := range 1 + s.below(20) {
			l = append(l, s.record(n))
		}
		e, p := engineOf(t, l...)
		q := s.query()
		q.Kind, q.Way, q.Terms, q.V, q.Measure, q.Depth, q.C = 2, s.below(4), terms(1, 1, 2, 2), vec(1, 1), s.below(2), 1+s.below(9), 1+s.below(9)
		byTerms, byVector := q, q
		byTerms.Kind, byVector.Kind = 0, 1
		x, _ := e.Ask(byTerms)
		y, _ := e.Ask(byVector)
		z, f := e.Ask(q)
		if f != api.OK || len(x) > 0 && len(y) > 0 && x[0].Doc == y[0].Doc && z[0].Doc != x[0].Doc {
			t.Fatal(x, y, z, f)
		}
		asksAs(t, e, p, q)
	}
}

// number is one of a query's.
type number struct {
	name        string
	least, most int
	asked       []int // by which kinds
	no          api.Errno
	set         func(q *Query, n int)
}

func numbers() []number {
	return []number{
		{"Kind", 0, 3, []int{0, 1, 2, 3}, api.ErrKind, func(q *Query, n int) { q.Kind = n }},
		{"Way", 0, 3, []int{0, 2, 3}, api.ErrKind, func(q *Query, n int) { q.Way = n }},
		{"Term", 0, 1<<20 - 1, []int{0, 2, 3}, api.ErrRange, func(q *Query, n int) { q.Terms = terms(n, 1) }},
		{"Weight", 1, 65535, []int{0, 2, 3}, api.ErrRange, func(q *Query, n int) { q.Terms = terms(1, 1, 5, n, 7, 1) }},
		{"V", -127, 127, []int{1, 2, 3}, api.ErrForm, func(q *Query, n int) { q.V = []int{0, 0, 0, 0, 0, 0, 0, n} }},
		{"the first of V", -127, 127, []int{1, 2, 3}, api.ErrForm, func(q *Query, n int) { q.V = vec(n) }},
		{"Measure", 0, 1, []int{1, 2, 3}, api.ErrRange, func(q *Query, n int) { q.Measure = n }},
		{"K", 1, 1000, []int{0, 1, 2, 3}, api.ErrRange, func(q *Query, n int) { q.K = n }},
		{"Depth", 1, 1000, []int{2, 3}, api.ErrRange, func(q *Query, n int) { q.Depth = n }},
		{"C", 1, million, []int{2}, api.ErrRange, func(q *Query, n int) { q.C = n }},
		{"A", 0, million, []int{3}, api.ErrRange, func(q *Query, n int) { q.A = n }},
		{"B", 0, million, []int{3}, api.ErrRange, func(q *Query, n int) { q.B = n }},
		{"Tags", 0, 255, []int{0, 1, 2, 3}, api.ErrRange, func(q *Query, n int) { q.Tags = n }},
	}
}

// Each number at both ends of its range, beyond them, and far out, by each kind:
// where it isn't asked it plays no part.
func TestEnds(t *testing.T) {
	e, p := engineOf(t, few()...)
	for _, x := range numbers() {
		for kind := range 4 {
			if x.name == "Kind" && kind > 0 {
				continue
			}
			as, _ := e.Ask(good(kind))
			for _, n := range []int{x.least, x.most, x.least - 1, x.most + 1, math.MinInt, math.MaxInt, x.most + 1<<32, x.least - 1<<32} {
				q := good(kind)
				x.set(&q, n)
				switch out := n < x.least || n > x.most; {
				case !slices.Contains(x.asked, kind):
					if l, f := e.Ask(q); f != api.OK || !slices.Equal(l, as) {
						t.Errorf("kind %d, %s of %d: %v, error %d, want %v", kind, x.name, n, l, f, as)
					}
				case out:
					refuses(t, e, q, x.no)
				default:
					asksAs(t, e, p, q)
				}
			}
		}
	}
}

// All that a kind doesn't ask is wrong at once.
func TestNotAsked(t *testing.T) {
	e, p := engineOf(t, few()...)
	for kind := range 4 {
		want, _ := e.Ask(good(kind))
		for _, n := range []int{-1, 0, 7, million + 1, math.MinInt, math.MaxInt} {
			q := good(kind).spoiled(n)
			if l, f := e.Ask(q); f != api.OK || len(want) == 0 || !slices.Equal(l, want) {
				t.Errorf("%+v: %v, error %d, want %v", q, l, f, want)
			}
			asksAs(t, e, p, q)
		}
	}
}

// fault is what may be wrong with a query that asks everything.
type fault struct {
	no   api.Errno
	does func(q *Query)
}

// faults are such, in an order in which they may be done one behind the other.
func faults() []fault {
	return []fault{
		{api.ErrForm, func(q *Query) { q.Terms = terms(5, 1, 1, 1) }},
		{api.ErrForm, func(q *Query) { q.V = q.V[:7] }},
		{api.ErrTwice, func(q *Query) { q.Terms = append(q.Terms, q.Terms[0]) }},
		{api.ErrRange, func(q *Query) { q.Terms = append(q.Terms, terms(1<<20, 1)...) }},
		{api.ErrRange, func(q *Query) { q.Terms[0].Weight = 0 }},
		{api.ErrRange, func(q *Query) { q.Tags = 256 }},
		{api.ErrLong, func(q *Query) { q.Terms = append(q.Terms, rising(100, 64)...) }},
		{api.ErrKind, func(q *Query) { q.Way = 4 }},
		{api.ErrKind, func(q *Query) { q.Kind = 4 }},
	}
}

// Of all that is wrong what is named first is answered, whatever else is wrong.
func TestOrderOfErrors(t *testing.T) {
	e, p := engineOf(t, few()...)
	l := faults()
	for set := 1; set < 1<<len(l); set++ {
		for kind := range 4 {
			q := good(kind)
			var no []api.Errno
			for i, x := range l {
				if set>>i&1 == 1 {
					x.does(&q)
					no = append(no, x.no)
				}
			}
			asksAs(t, e, p, q)
			for _, f := range []api.Errno{api.ErrKind, api.ErrLong, api.ErrTwice, api.ErrRange, api.ErrForm} {
				if kind > 1 && slices.Contains(no, f) {
					refuses(t, e, q, f)
					break
				}
			}
		}
	}
}

// Rows of terms: as many as may be, one more, twice, falling, none.
func TestTerms(t *testing.T) {
	e, p := engineOf(t, few()...)
	for _, kind := range []int{0, 2, 3} {
		for i, x := range []struct {
			terms []api.Term
			want  api.Errno
		}{
			{nil, api.OK}, {[]api.Term{}, api.OK}, {rising(0, 64), api.OK}, {rising(0, 65), api.ErrLong}, {rising(1<<20-64, 64), api.OK}, {rising(1<<20-63, 64), api.ErrRange},
			{make([]api.Term, 64), api.ErrTwice}, {make([]api.Term, 65), api.ErrLong}, {terms(1, 1, 1, 2), api.ErrTwice}, {terms(1, 1, 2, 1, 1, 1), api.ErrTwice}, {terms(2, 1, 1, 1, 2, 1), api.ErrTwice},
			{terms(-1, 1, -1, 1), api.ErrTwice}, {terms(2, 1, 1, 1), api.ErrForm}, {terms(1, 1, 3, 1, 2, 1), api.ErrForm}, {terms(2, 1, -1, 1), api.ErrRange}, {terms(0, 0), api.ErrRange},
			{append(rising(0, 63), api.Term{Term: 0, Weight: 1}), api.ErrTwice}, {append(rising(1, 63), api.Term{Term: 0, Weight: 1}), api.ErrForm},
		} {
			q := good(kind)
			q.Terms = x.terms
			if _, f := e.Ask(q); f != x.want {
				t.Error(kind, i, f, x.want)
			}
			asksAs(t, e, p, q)
		}
	}
	q := good(0)
	q.Terms = nil
	finds(t, e, q)
	q.Terms = terms(3, 1, 1<<20-1, 65535)
	finds(t, e, q)
}

func TestVectors(t *testing.T) {
	e, _ := engineOf(t, few()...)
	for kind := 1; kind < 4; kind++ {
		for n := range 20 {
			q := good(kind)
			q.V = make([]int, n)
			if _, f := e.Ask(q); (f == api.OK) != (n == 8) || n != 8 && f != api.ErrForm {
				t.Error(kind, n, f)
			}
		}
		for i := range 8 {
			q := good(kind)
			q.V[i] = 128
			refuses(t, e, q, api.ErrForm)
			q.V[i] = -128
			refuses(t, e, q, api.ErrForm)
		}
	}
}

// Weights: not both may be 0; one may.
func TestNoWeights(t *testing.T) {
	e, p := engineOf(t, few()...)
	for _, a := range []int{0, 1, million} {
		for _, b := range []int{0, 1, million} {
			q := good(3)
			q.A, q.B = a, b
			asksAs(t, e, p, q)
			if _, f := e.Ask(q); (f == api.ErrRange) != (a == 0 && b == 0) {
				t.Error(a, b, f)
			}
		}
	}
	q := good(3)
	q.A, q.B = -1, 1
	refuses(t, e, q, api.ErrRange)
	q.A, q.B = 1, -1
	refuses(t, e, q, api.ErrRange)
	q.A, q.B = math.MaxInt, 1
	refuses(t, e, q, api.ErrRange)
}

// Tags that all documents have, some, and none.
func TestTags(t *testing.T) {
	e, p := engineOf(t, few()...)
	for tags := range 256 {
		for i := range 8 {
			q := good(i % 4)
			q.Tags, q.Measure, q.Depth = tags, i/4, 1+tags%6
			asksAs(t, e, p, q)
		}
	}
	q := good(1)
	for tags, want := range map[int]int{0: 5, 1: 3, 2: 3, 3: 2, 4: 1, 255: 1} {
		q.Tags = tags
		if l, _ := e.Ask(q); len(l) != want {
			t.Error(tags, l)
		}
	}
	e, _ = engineOf(t, few()[:2]...)
	q.Tags = 4
	finds(t, e, q)
	// What has not the tags plays no part in what is deep enough.
	q = good(3)
	q.Tags, q.Depth = 2, 1
	finds(t, e, q, 4, 16+17, 1)
}

// Documents of the same value stand by their numbers, in whatever order they came.
func TestTies(t *testing.T) {
	var l []doc.Record
	for _, n := range []int{9, 3, 300, 0, mostDoc, 4} {
		l = append(l, doc.Record{Doc: n, Terms: terms(1, 2), V: vec(1)})
	}
	e, p := engineOf(t, l...)
	for i := range 8 {
		for k := 1; k < 8; k++ {
			q := good(i % 4)
			q.Measure, q.K, q.Depth = i/4, k, k
			asksAs(t, e, p, q)
			got, _ := e.Ask(q)
			for j, v := range got {
				if v.Doc != []int{0, 3, 4, 9, 300, mostDoc}[j] {
					t.Error(q, got)
				}
			}
		}
	}
}

// The greatest scores and weights there are.
func TestGreatest(t *testing.T) {
	var row []api.Term
	for n := range 64 {
		row = append(row, api.Term{Term: 1<<20 - 64 + n, Weight: 65535})
	}
	v, w := slices.Repeat([]int{127}, 8), slices.Repeat([]int{-127}, 8)
	e, p := engineOf(t, doc.Record{Doc: 1, Terms: row, V: v}, doc.Record{Doc: 2, Terms: row[1:], V: w}, doc.Record{Doc: 3, V: w})
	for i := range 2 * 4 {
		for _, x := range [][]int{v, w} {
			q := Query{Kind: i % 4, Terms: row, V: x, Measure: i / 4, K: 1000, Depth: 1000, C: million, A: million, B: million}
			for way := range 4 {
				q.Way = way
				asksAs(t, e, p, q)
			}
		}
	}
	q := Query{Terms: row, K: 1}
	finds(t, e, q, 1, 64*65535*65535, 1)
	q = Query{Kind: 3, Terms: row, V: w, Measure: 1, K: 3, Depth: 3, A: million, B: million}
	finds(t, e, q, 1, million*(64*65535*65535-8*254*254), 1, 2, million*63*65535*65535, 1, 3, 0, 1)
}

// Drawn queries over drawn documents, held against a plain reckoning; and the four
// ways answer the same.
func TestDrawnQueries(t *testing.T) {
	found := [4]int{}
	for seed := range 300 {
		s := sequence(seed)
		e, p := engineOf(t)
		for range s.one(0, 1, 2, 5, 20, 60) {
			serves(t, e, p, puts(s.record(s.one(s.below(30), s.below(1000), mostDoc-s.below(9)))))
		}
		for range 60 {
			q := s.query()
			asksAs(t, e, p, q)
			l, f := e.Ask(q)
			if f != api.OK {
				t.Fatal(q, f)
			}
			found[q.Kind] += len(l)
			if q.Kind == 1 {
				continue
			}
			for way := range 4 {
				q.Way = way
				if m, f := e.Ask(q); f != api.OK || !slices.Equal(m, l) {
					t.Fatalf("%+v: %v, error %d, want %v", q, m, f, l)
				}
			}
		}
	}
	for kind, n := range found {
		if n < 1000 {
			t.Error("few are found of kind", kind, n)
		}
	}
}

// Drawn queries that are often wrong.
func TestDrawnErrors(t *testing.T) {
	e, p := engineOf(t, few()...)
	seen := map[api.Errno]int{}
	for seed := range 20000 {
		s := sequence(seed)
		q := s.query()
		l := numbers()
		for range 1 + s.below(3) {
			x := l[s.below(len(l))]
			x.set(&q, s.one(x.least, x.most, x.least-1, x.most+1, math.MinInt, math.MaxInt))
		}
		switch s.below(12) {
		case 0:
			q.Terms = append(q.Terms, q.Terms...)
		case 1:
			slices.Reverse(q.Terms)
		case 2:
			q.Terms = rising(s.one(-1, 0, 1), s.one(64, 65))
		}
		asksAs(t, e, p, q)
		_, f := e.Ask(q)
		seen[f]++
	}
	for _, f := range []api.Errno{api.OK, api.ErrRange, api.ErrForm, api.ErrLong, api.ErrTwice, api.ErrKind} {
		if seen[f] < 100 {
			t.Error(f, seen[f])
		}
	}
}

// As many documents as there may be, and as many as may be asked for.
func TestAllDocuments(t *testing.T) {
	s := sequence(3)
	var l []doc.Record
	for n := range 256 {
		l = append(l, s.record(n*7%256*1000))
	}
	e, p := engineOf(t, l...)
	for range 200 {
		q := s.query()
		q.K, q.Depth = s.one(255, 256, 257, 999, 1000), s.one(1, 100, 255, 256, 257, 1000)
		asksAs(t, e, p, q)
	}
}

// A disk that tells more documents than may be put: all of them count, also where
// both lists together have more than layer 8 takes.
func TestGreatDisk(t *testing.T) {
	const docs = 2500
	s, p := sequence(5), newPlain()
	text := varintsOf(docs)
	for n := range docs {
		d := s.record(n * 3)
		p.docs[d.Doc] = d
		text += changeBytes(doc.Change{Record: d})
	}
	d := newDisk(t, mostQuota)
	for i, file := range []string{"man", "seg.0"} {
		if d.Append(file, []string{sealed("\x00\x01\x00"), sealed(text)}[i]) != api.OK || d.Sync(file) != api.OK {
			t.Fatal("no room")
		}
	}
	e := opened(t, d)
	for i := range 60 {
		q := Query{
			Kind: i % 4, Way: s.below(4), Terms: s.terms(9), V: s.vector(), Measure: s.below(2), K: s.one(1, 998, 999, 1000), Depth: 1000 - s.below(2),
			C: 1 + s.below(5), A: 1, B: s.below(3), Tags: s.one(0, 1),
		}
		asksAs(t, e, p, q)
	}
	// One list alone, as long as may be.
	asksAs(t, e, p, Query{Kind: 3, V: vec(1, 2, 3), K: 1000, Depth: 1000, A: 1, B: 1})
	asksAs(t, e, p, Query{Kind: 2, V: vec(1, 2, 3), K: 1000, Depth: 1000, C: 1})
}

// room answers l with spare room behind it, and what is in that.
func room[T any](l []T, mark T) ([]T, []T) {
	great := append(slices.Clone(l), mark, mark)
	return great[:len(l)], great
}

// What is handed in isn't changed, nor kept; what is answered is new memory.
func TestMemory(t *testing.T) {
	e, p := engineOf(t, few()...)
	for kind := range 4 {
		q := good(kind)
		want, f := e.Ask(q)
		if f != api.OK || len(want) == 0 {
			t.Fatal(want, f)
		}
		keep := slices.Clone(want)
		var allTerms []api.Term
		var allV []int
		q.Terms, allTerms = room(q.Terms, api.Term{Term: -5, Weight: -6})
		q.V, allV = room(q.V, -99)
		l, _ := e.Ask(q)
		if !slices.Equal(allTerms, append(good(kind).Terms, api.Term{Term: -5, Weight: -6}, api.Term{Term: -5, Weight: -6})) || !slices.Equal(allV, append(good(kind).V, -99, -99)) {
			t.Error(allTerms, allV)
		}
		clear(allTerms)
		clear(allV)
		clear(want)
		clear(want[:cap(want)])
		if m, _ := e.Ask(good(kind)); !slices.Equal(l, keep) || !slices.Equal(m, keep) {
			t.Error(l, m, keep)
		}
	}
	docs := e.Docs()
	clear(docs)
	holds(t, e, p)
}

// What Ask answers hangs on the documents alone, not on what was asked or done
// ahead of it, nor on another engine.
func TestTheSameAgain(t *testing.T) {
	e, p := engineOf(t, few()...)
	other, _ := engineOf(t, doc.Record{Doc: 4, Terms: terms(1, 9), V: vec(5)})
	turned := few()
	slices.Reverse(turned)
	late, _ := engineOf(t, append([]doc.Record{{Doc: 99, Terms: terms(1, 99), V: vec(1)}}, turned...)...)
	late.Serve(bytesOf(goes(99)))
	late.Serve(bytesOf(flushes()))
	for seed := range 300 {
		s := sequence(seed)
		q, r := s.query(), s.query()
		asksAs(t, e, p, q)
		other.Ask(r)
		e.Ask(r)
		e.Ask(Query{Kind: 4})
		asksAs(t, e, p, q)
		asksAs(t, late, p, q)
	}
	if e.Served() != len(few()) {
		t.Error("Ask is no request:", e.Served())
	}
}

// Ask asks only: no effect on the disk, and no document is changed.
func TestAskChangesNothing(t *testing.T) {
	d := newDisk(t, mostQuota)
	e, p := opened(t, d), newPlain()
	for _, r := range few() {
		serves(t, e, p, puts(r))
	}
	n, l := d.Effects(), filesOf(t, d)
	s := sequence(1)
	for range 200 {
		e.Ask(s.query())
	}
	if d.Effects() != n || !slices.Equal(filesOf(t, d), l) {
		t.Error(d.Effects(), n)
	}
	holds(t, e, p)
	// Nor does it need the disk.
	d.Crash(0)
	holds(t, e, p)
}

// filesOf is what stands on a disk that is on: name, bytes, name, bytes.
func filesOf(t *testing.T, d *vdisk.Disk) []string {
	t.Helper()
	var l []string
	for _, name := range d.List() {
		s, f := d.Read(name)
		if f != api.OK {
			t.Fatal(name, f)
		}
		l = append(l, name, s)
	}
	return append(l, strconv.Itoa(d.Used()))
}
