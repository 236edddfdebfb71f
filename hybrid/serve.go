package hybrid

import (
	"strings"

	"rankloft/api"
	"rankloft/doc"
)

// What a request may ask.
const (
	opChange = iota
	opGet
	opFlush
	opMerge
	opQuery
	opCount
	ops
)

// operation does what a request asks, and answers what comes behind the error in
// the answer's bytes.
type operation func(r Request) (string, api.Errno)

// Serve does what a request's bytes ask, and answers the answer's bytes.
func (e *Engine) Serve(s string) string {
	e.served.Add(1)
	r, f := Parse(s)
	if f != api.OK {
		return varint(int(f))
	}
	rest, f := e.operations()[r.Op](r)
	if f != api.OK {
		return varint(int(f))
	}
	return varint(int(api.OK)) + rest
}

// operations are those of all requests, by their Op.
func (e *Engine) operations() [ops]operation {
	return [ops]operation{
		opChange: func(r Request) (string, api.Errno) { return "", e.store.Put(r.Change) },
		opGet:    e.get,
		opFlush:  func(Request) (string, api.Errno) { return "", e.store.Flush() },
		opMerge:  func(Request) (string, api.Errno) { return "", e.store.Merge() },
		opQuery:  e.query,
		opCount: func(Request) (string, api.Errno) {
			return varints(len(e.store.Docs()), e.store.Segments())
		},
	}
}

// get answers a live document's bytes: ErrNone, if it isn't live.
func (e *Engine) get(r Request) (string, api.Errno) {
	d, ok := e.store.Get(r.Doc)
	if !ok {
		return "", api.ErrNone
	}
	return doc.Print(doc.Change{Record: d})
}

// query answers the bytes of what is found.
func (e *Engine) query(r Request) (string, api.Errno) {
	l, f := e.Ask(r.Query)
	if f != api.OK {
		return "", f
	}
	var b strings.Builder
	b.WriteString(varint(len(l)))
	for _, v := range l {
		b.WriteString(varint(v.Doc) + zigzags([]int{int(v.Value.Num), int(v.Value.Den)}))
	}
	return b.String(), api.OK
}
