package traverse

import (
	"rankloft/api"
	"rankloft/posting"
)

// behind stands for the document of a cursor that is behind all: it is greater
// than every document.
const behind = api.MaxDoc + 1

// part is one of a query on its way, with a cursor of its own.
type part struct {
	cursor *posting.Cursor
	weight int
	// No document's score has more of this part.
	most int
}

// parts are some of a query's.
type parts []*part

// partsOf are those of q, each at its list's first post.
func partsOf(q []Part) parts {
	l := make(parts, len(q))
	for i, p := range q {
		l[i] = &part{cursor: p.List.Cursor(), weight: p.Weight, most: p.Weight * p.List.Max()}
	}
	return l
}

// doc is the document at which the part stands.
func (p *part) doc() int {
	if post, ok := p.cursor.At(); ok {
		return post.Doc
	}
	return behind
}

// at is what the part, as it stands, contributes to doc's score.
func (p *part) at(doc int) int {
	if post, ok := p.cursor.At(); ok && post.Doc == doc {
		return p.weight * post.Weight
	}
	return 0
}

// brings is what the part contributes to doc's score, if it hasn't gone by.
func (p *part) brings(doc int) int {
	p.cursor.Seek(doc)
	return p.at(doc)
}

// first is the least document at which one of them stands.
func (l parts) first() int {
	doc := behind
	for _, p := range l {
		doc = min(doc, p.doc())
	}
	return doc
}

// at is what they, as they stand, contribute to doc's score.
func (l parts) at(doc int) int {
	score := 0
	for _, p := range l {
		score += p.at(doc)
	}
	return score
}

// pass moves those that stand at doc behind it.
func (l parts) pass(doc int) {
	for _, p := range l {
		if p.doc() == doc {
			p.cursor.Next()
		}
	}
}

// seek moves all of them to doc, or to the first one behind.
func (l parts) seek(doc int) {
	for _, p := range l {
		p.cursor.Seek(doc)
	}
}
