package store

import (
	"cmp"
	"maps"
	"slices"
	"strconv"
	"strings"

	"rankloft/api"
	"rankloft/crc"
	"rankloft/doc"
	"rankloft/pack"
)

const (
	manifestName  = "man"
	newName       = "man.new"
	logPrefix     = "log."
	segmentPrefix = "seg."

	mostFirst    = 1 << 30
	mostSegments = 1 << 20
)

func logName(n int) string { return logPrefix + strconv.Itoa(n) }

func segmentName(n int) string { return segmentPrefix + strconv.Itoa(n) }

// changes are those of documents by their numbers, one of each.
type changes map[int]doc.Change

// do puts a document, or takes it away.
func (l changes) do(c doc.Change) {
	if c.Gone {
		delete(l, c.Doc)
		return
	}
	l[c.Doc] = c
}

// print answers a segment's bytes.
func (l changes) print() string {
	parts := []string{sure(pack.Varint(len(l)))}
	for _, n := range slices.Sorted(maps.Keys(l)) {
		parts = append(parts, sure(doc.Print(l[n])))
	}
	return crc.Seal(strings.Join(parts, ""))
}

// parseSegment answers the changes that a segment's bytes tell; false, if they
// are none.
func parseSegment(s string) ([]doc.Change, bool) {
	text, e := crc.Open(s)
	r := pack.New(text)
	var l []doc.Change
	last := -1
	for range r.Varint() {
		c, ok := doc.Read(r)
		if !ok || c.Doc <= last {
			return nil, false
		}
		last = c.Doc
		l = append(l, c)
	}
	return l, e == api.OK && isAtEnd(r)
}

// frame answers a change's bytes as a log has them.
func frame(text string) string {
	sealed := crc.Seal(text)
	return sure(pack.Varint(len(sealed))) + sealed
}

// takeFrame takes a log's next change off a reader; false, if no whole frame is
// there.
func takeFrame(r *pack.Reader) (doc.Change, bool) {
	text, e := crc.Open(r.Bytes(r.Varint()))
	if e != api.OK {
		return doc.Change{}, false
	}
	c, e := doc.Parse(text)
	return c, e == api.OK
}

// manifest tells the first log, and the segments by rising numbers.
type manifest struct {
	first    int
	segments []int
}

// print answers a manifest's bytes; false, if its numbers go beyond those that
// one may have.
func (m manifest) print() (string, bool) {
	segments, e := pack.Rising(m.segments)
	if e != api.OK || m.first > mostFirst || len(m.segments) > mostSegments {
		return "", false
	}
	return crc.Seal(sure(pack.Varint(m.first)) + segments), true
}

// parseManifest answers the manifest that its bytes tell; false, if they tell none.
func parseManifest(s string) (manifest, bool) {
	text, e := crc.Open(s)
	r := pack.New(text)
	m := manifest{first: r.Varint(), segments: r.Rising(mostSegments)}
	if e != api.OK || !isAtEnd(r) || m.first > mostFirst {
		return manifest{}, false
	}
	return m, true
}

// lastSegment is the greatest number of all that there are.
func (m manifest) lastSegment() int { return m.segments[len(m.segments)-1] }

// nextSegment is one above all numbers; behind the greatest one there is, it is
// below 0, and no segment's.
func (m manifest) nextSegment() int {
	if len(m.segments) == 0 {
		return 0
	}
	return m.lastSegment() + 1
}

// drops tells whether a file is one that plays no part beside the manifest, nor
// ever will: an older log, a segment that isn't told, a manifest that never became
// one.
func (m manifest) drops(name string) bool {
	if n, ok := numberBehind(logPrefix, name); ok {
		return isBelow(n, strconv.Itoa(m.first))
	}
	if _, ok := numberBehind(segmentPrefix, name); ok {
		return !slices.ContainsFunc(m.segments, func(n int) bool { return segmentName(n) == name })
	}
	return name == newName
}

// numberBehind answers the digits of a name that is the prefix and a number.
func numberBehind(prefix, name string) (string, bool) {
	digits, ok := strings.CutPrefix(name, prefix)
	if !ok || digits == "" || strings.Trim(digits, "0123456789") != "" {
		return "", false
	}
	return digits, digits == "0" || digits[0] != '0'
}

// isBelow holds numbers without noughts ahead against each other: a name may have
// one of more digits than an int.
func isBelow(a, b string) bool {
	return cmp.Or(cmp.Compare(len(a), len(b)), cmp.Compare(a, b)) < 0
}

// isAtEnd tells whether all that a reader was asked was there, and nothing more.
func isAtEnd(r *pack.Reader) bool { return !r.Bad() && r.Left() == 0 }

// sure answers what a layer wrote of something that it has nothing to refuse in.
func sure(s string, _ api.Errno) string { return s }
