package traverse

import (
	"cmp"
	"slices"
	"sync/atomic"

	"rankloft/api"
	"rankloft/topk"
)

// search is a query on its way. All ways come to the documents by rising
// numbers, so that of the same score what was kept stays: what is to be kept
// once k are must come above the worst one's score.
type search struct {
	parts  parts
	may    func(doc int) bool
	best   *topk.Top[api.Scored]
	scored *atomic.Int64
}

// newSearch begins one, which counts the documents that it scores.
func newSearch(q []Part, k int, may func(doc int) bool, scored *atomic.Int64) *search {
	if may == nil {
		// No function tells that a document may be.
		may = func(int) bool { return false }
	}
	return &search{parts: partsOf(q), may: may, best: topk.New(k, topk.Better), scored: scored}
}

// ways are those of going through the query, each at its number.
func (s *search) ways() [Blocks + 1]func() {
	return [...]func(){
		All:    s.all,
		Maxima: s.maxima,
		Pivot:  func() { s.pivots(s.pivot) },
		Blocks: func() { s.pivots(s.behindBlocks) },
	}
}

// worst is the score above which a document must come to be kept. As long as
// there is room this is 0, as each document's score is above that.
func (s *search) worst() int {
	// The score of no worst one is 0.
	x, _ := s.best.Worst()
	return x.Score
}

// keep takes a document that was scored whole.
func (s *search) keep(doc, score int) {
	s.scored.Add(1)
	s.best.Offer(api.Scored{Doc: doc, Score: score})
}

// all goes document by document.
func (s *search) all() {
	for doc := s.parts.first(); doc < behind; doc = s.parts.first() {
		if s.may(doc) {
			s.keep(doc, s.parts.at(doc))
		}
		s.parts.pass(doc)
	}
}

// maxima goes document by document through those parts alone without which none
// can be kept. They grow fewer as the worst one's score rises.
func (s *search) maxima() {
	slices.SortStableFunc(s.parts, func(a, b *part) int { return cmp.Compare(a.most, b.most) })
	together := s.together()
	for {
		sought := s.sought(together)
		needed := s.parts[sought:]
		doc := needed.first()
		if doc == behind {
			return
		}
		if s.may(doc) {
			s.complete(doc, needed.at(doc), together[:sought])
		}
		needed.pass(doc)
	}
}

// together are the greatest contributions of each part and those ahead of it.
func (s *search) together() []int {
	sum, l := 0, make([]int, len(s.parts))
	for i, p := range s.parts {
		sum += p.most
		l[i] = sum
	}
	return l
}

// sought is of how many parts, from the first on, the contributions together
// can't come above the worst one's score.
func (s *search) sought(together []int) int {
	worst := s.worst()
	n := 0
	for n < len(together) && together[n] <= worst {
		n++
	}
	return n
}

// complete adds to a document's score what the parts that are only sought in
// contribute, and gives it up as soon as it can't be kept any more.
func (s *search) complete(doc, score int, together []int) {
	worst := s.worst()
	for i := len(together) - 1; i >= 0; i-- {
		if score+together[i] <= worst {
			return
		}
		score += s.parts[i].brings(doc)
	}
	s.keep(doc, score)
}

// pivots goes from one pivot to the next. What is told of the parts that reach
// one is the first document, from the pivot on, that could be kept.
func (s *search) pivots(from func(reaching int) int) {
	for n := s.reaching(); n > 0; n = s.reaching() {
		reach := s.parts[:n]
		doc := s.pivot(n)
		if next := from(n); next > doc || reach[0].doc() < doc {
			reach.seek(next)
			continue
		}
		if s.may(doc) {
			s.keep(doc, reach.at(doc))
		}
		reach.pass(doc)
	}
}

// reaching puts the parts in order of the documents at which they stand, and
// tells how many stand at the pivot or ahead of it: 0, if there is no pivot.
func (s *search) reaching() int {
	slices.SortStableFunc(s.parts, func(a, b *part) int { return cmp.Compare(a.doc(), b.doc()) })
	n := s.sought(s.together())
	if n == len(s.parts) || s.parts[n].doc() == behind {
		return 0
	}
	doc := s.parts[n].doc()
	for n < len(s.parts) && s.parts[n].doc() == doc {
		n++
	}
	return n
}

// pivot is the document that so many parts reach.
func (s *search) pivot(reaching int) int { return s.parts[reaching-1].doc() }

// behindBlocks is the pivot, if the blocks in which it lies could bring it above
// the worst one; else the document behind the first of their ends, or at which
// one more part stands, if that comes first.
func (s *search) behindBlocks(reaching int) int {
	doc := s.pivot(reaching)
	most, end := 0, behind
	for _, p := range s.parts[:reaching] {
		weight, last := p.cursor.Block(doc)
		most += p.weight * weight
		// A list that ends ahead of the pivot has no block there.
		if last >= 0 {
			end = min(end, last)
		}
	}
	if most > s.worst() {
		return doc
	}
	return min(end+1, s.parts[reaching:].first())
}
