package dense

import (
	"rankloft/api"
	"rankloft/topk"
)

// measuring is how a measure goes, number by number.
type measuring struct {
	// What a document's number brings to its score, beside the query's number.
	brings func(asked, number int) int
	// What no number of a document brings more than.
	most func(asked int) int
}

// measurings are those of the measures, each at its number.
func measurings() [2]measuring {
	return [...]measuring{
		{
			brings: func(asked, number int) int { return asked * number },
			most:   func(asked int) int { return greatest * max(asked, -asked) },
		},
		{
			brings: func(asked, number int) int { return -(asked - number) * (asked - number) },
			most:   func(int) int { return 0 },
		},
	}
}

// measuringOf is that of a measure, and true; false, if there is no such one.
func measuringOf(measure int) (measuring, bool) {
	l := measurings()
	if measure < 0 || measure >= len(l) {
		return measuring{}, false
	}
	return l[measure], true
}

// search is a query on its way. Rows come by rising documents, so that of the
// same score what was kept stays: what is to be kept once k are must come above
// the worst one's score.
type search struct {
	by measuring
	q  [api.Dims]int
	// What the numbers behind each one bring together, at most.
	left [api.Dims]int
	best *topk.Top[api.Scored]
}

// newSearch begins one.
func newSearch(by measuring, q []int, k int) *search {
	s := &search{by: by, best: topk.New(k, topk.Better)}
	copy(s.q[:], q)
	for i := api.Dims - 1; i > 0; i-- {
		s.left[i-1] = s.left[i] + by.most(s.q[i])
	}
	return s
}

// look keeps a document, or gives it up as soon as it can't be kept any more,
// and answers how many of its numbers that took.
func (s *search) look(r Row) int {
	worst, full := s.best.Worst()
	score := 0
	for i, n := range r.V {
		score += s.by.brings(s.q[i], n)
		if full && score+s.left[i] <= worst.Score {
			return i + 1
		}
	}
	s.best.Offer(api.Scored{Doc: r.Doc, Score: score})
	return len(r.V)
}
