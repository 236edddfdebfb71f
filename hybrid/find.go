package hybrid

import (
	"maps"
	"slices"

	"rankloft/api"
	"rankloft/dense"
	"rankloft/doc"
	"rankloft/fuse"
	"rankloft/posting"
	"rankloft/topk"
	"rankloft/traverse"
)

// asking is a right query with what it is asked of.
type asking struct {
	Query
	records map[int]doc.Record
	rows    []dense.Row
	parts   []traverse.Part
}

// asking answers a right query with the store's documents.
func (e *Engine) asking(q Query) asking {
	a := asking{Query: q, records: map[int]doc.Record{}}
	lists := map[int][]api.Post{}
	for _, t := range q.Terms {
		lists[t.Term] = nil
	}
	for _, n := range e.store.Docs() {
		r, _ := e.store.Get(n)
		a.records[n] = r
		a.rows = append(a.rows, dense.Row{Doc: n, V: r.V})
		for _, t := range r.Terms {
			if l, is := lists[t.Term]; is {
				lists[t.Term] = append(l, api.Post{Doc: n, Weight: t.Weight})
			}
		}
	}
	for _, t := range q.Terms {
		a.parts = append(a.parts, traverse.Part{List: sure(posting.Build(lists[t.Term])), Weight: t.Weight})
	}
	return a
}

// answer answers the query, the best document first.
func (a asking) answer() []fuse.Value {
	kinds := [...]func() []fuse.Value{
		kindSparse:  func() []fuse.Value { return whole(a.sparse(a.K)) },
		kindDense:   func() []fuse.Value { return whole(a.dense(a.K)) },
		kindRanks:   a.byRanks,
		kindWeights: a.byWeights,
	}
	return kinds[a.Kind]()
}

// may tells whether a document has all tags that are asked.
func (a asking) may(n int) bool { return a.records[n].Tags&a.Tags == a.Tags }

// sparse answers the k best documents by terms.
func (a asking) sparse(k int) []api.Scored {
	return sure(traverse.Find(traverse.Way(a.Way), a.parts, k, a.may))
}

// dense answers the k best documents by their vectors.
func (a asking) dense(k int) []api.Scored {
	return sure(dense.Find(a.Measure, a.V, a.rows, k, a.may))
}

// byRanks answers the best documents of both lists by their ranks.
func (a asking) byRanks() []fuse.Value {
	return sure(fuse.Ranks(a.sparse(a.Depth), a.dense(a.Depth), a.C, a.K))
}

// byWeights answers the best documents of either list by their true scores, also
// where they aren't deep enough in the other one to stand there. A disk may tell
// more documents than layer 8 takes at once: then the best of all are found among
// the best of each lot.
func (a asking) byWeights() []fuse.Value {
	best := topk.New(a.K, fuse.Better)
	for lot := range slices.Chunk(either(a.sparse(a.Depth), a.dense(a.Depth)), api.MaxK) {
		byTerms := scored(lot, func(n int) int { return traverse.Score(a.parts, n) })
		byVector := scored(lot, func(n int) int { return sure(dense.Score(a.Measure, a.V, a.records[n].V)) })
		for _, v := range sure(fuse.Weights(byTerms, byVector, a.A, a.B, a.K)) {
			best.Offer(v)
		}
	}
	return best.List()
}

// either answers the documents of one list or the other, each once, rising.
func either(x, y []api.Scored) []int {
	docs := make(map[int]struct{}, len(x)+len(y))
	for _, s := range slices.Concat(x, y) {
		docs[s.Doc] = struct{}{}
	}
	return slices.Sorted(maps.Keys(docs))
}

// scored answers documents with the scores that a function tells.
func scored(docs []int, score func(n int) int) []api.Scored {
	var l []api.Scored
	for _, n := range docs {
		l = append(l, api.Scored{Doc: n, Score: score(n)})
	}
	return l
}

// whole answers documents with their scores as values.
func whole(l []api.Scored) []fuse.Value {
	var values []fuse.Value
	for _, s := range l {
		values = append(values, fuse.Value{Doc: s.Doc, Value: api.Ratio{Num: int64(s.Score), Den: 1}})
	}
	return values
}

// sure answers what a layer made of something that it has nothing to refuse in.
func sure[T any](x T, _ api.Errno) T { return x }
