package hybrid

import (
	"cmp"
	"slices"

	"rankloft/api"
	"rankloft/dense"
	"rankloft/traverse"
)

// The kinds of queries.
const (
	kindSparse = iota
	kindDense
	kindRanks
	kindWeights
)

const (
	mostMeasure = 1
	mostC       = 1000000
	mostWeight  = 1000000
	// mostTags has all bits of Tags.
	mostTags = 1<<api.MaxTags - 1
)

// asked answers a query in which all that its Kind doesn't ask is as it may be, so
// that it plays no part.
func (q Query) asked() Query {
	if q.Kind == kindDense {
		q.Way, q.Terms = 0, nil
	}
	if q.Kind == kindSparse {
		q.V, q.Measure = make([]int, api.Dims), 0
	}
	if q.Kind == kindSparse || q.Kind == kindDense {
		q.Depth = 1
	}
	if q.Kind != kindRanks {
		q.C = 1
	}
	if q.Kind != kindWeights {
		q.A, q.B = 1, 1
	}
	return q
}

// right answers why what a query asks can't be answered, by the first error that
// applies; OK, if it can.
func right(q Query) api.Errno {
	switch {
	case !isWithin(q.Kind, kindSparse, kindWeights) || !isWithin(q.Way, int(traverse.All), int(traverse.Blocks)):
		return api.ErrKind
	case len(q.Terms) > api.MaxTerms:
		return api.ErrLong
	case isTwice(q.Terms):
		return api.ErrTwice
	case !areWithin(q.Terms) || !inRange(q):
		return api.ErrRange
	case !rise(q.Terms) || !dense.Right(q.V):
		return api.ErrForm
	}
	return api.OK
}

// inRange tells whether all numbers of a query behind its vector are in their
// ranges.
func inRange(q Query) bool {
	return isWithin(q.Measure, 0, mostMeasure) &&
		isWithin(q.K, 1, api.MaxK) && isWithin(q.Depth, 1, api.MaxK) &&
		isWithin(q.C, 1, mostC) &&
		isWithin(q.A, 0, mostWeight) && isWithin(q.B, 0, mostWeight) && q.A+q.B > 0 &&
		isWithin(q.Tags, 0, mostTags)
}

// isWithin tells whether n is one of least to most.
func isWithin(n, least, most int) bool { return n >= least && n <= most }

// isTwice tells whether a term is there twice, side by side or apart.
func isTwice(terms []api.Term) bool {
	seen := make(map[int]struct{}, len(terms))
	for _, t := range terms {
		seen[t.Term] = struct{}{}
	}
	return len(seen) < len(terms)
}

// areWithin tells whether all terms and weights are in their ranges.
func areWithin(terms []api.Term) bool {
	return !slices.ContainsFunc(terms, func(t api.Term) bool {
		return !isWithin(t.Term, 0, api.MaxTerm) || !isWithin(t.Weight, 1, api.MaxWeight)
	})
}

// rise tells whether terms of which none is there twice stand by rising numbers.
func rise(terms []api.Term) bool {
	return slices.IsSortedFunc(terms, func(a, b api.Term) int { return cmp.Compare(a.Term, b.Term) })
}
