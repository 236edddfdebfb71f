package fuse

import (
	"rankloft/api"
	"rankloft/exact"
	"rankloft/topk"
)

// adding is what a list adds to a document's value, by the document's rank and
// score in it: a right rational.
type adding func(rank, score int) api.Ratio

// sums are the documents of the lists so far, each with its value.
type sums map[int]api.Ratio

// add puts to the values what a list adds. Of numbers as small as those of lists,
// constants and weights no sum is refused: by ranks Den is at most the square of
// 1001000, by weights Num at most 2^41 times 10^6.
func (s sums) add(l []api.Scored, adds adding) {
	for i, x := range l {
		value := adds(i+1, x.Score)
		if before, ok := s[x.Doc]; ok {
			value, _ = exact.Sum(before, value)
		}
		s[x.Doc] = value
	}
}

// best answers the k best documents, the best one first. As no two documents are
// the same by Better, it plays no part in what order the map is gone through.
func (s sums) best(k int) []Value {
	t := topk.New(k, Better)
	for doc, value := range s {
		t.Offer(Value{Doc: doc, Value: value})
	}
	return t.List()
}
