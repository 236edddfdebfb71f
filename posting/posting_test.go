package posting

import (
	"encoding/binary"
	"hash/crc32"
	"math"
	"slices"
	"strings"
	"testing"

	"rankloft/api"
)

const (
	mostDoc    = 1<<31 - 1
	mostWeight = 65535
)

// sequence is a fixed row of numbers without an order that shows.
type sequence uint64

// below answers a number of 0 to n - 1.
func (q *sequence) below(n int) int {
	*q = *q*6364136223846793005 + 1442695040888963407
	x := uint64(*q)
	return int((x ^ x>>29) % uint64(n))
}

// posts answers a list of n posts with steps of 1 to step from one document to
// the next.
func (q *sequence) posts(n, step int) []api.Post {
	l, doc := make([]api.Post, n), -1
	for i := range l {
		doc += 1 + q.below(step)
		l[i] = api.Post{Doc: doc, Weight: 1 + q.below(mostWeight)}
	}
	return l
}

// lists are what most tests go through: every length up to 41, the edges of
// documents and weights, the greatest weight at every place, and longer ones.
func lists() [][]api.Post {
	q := sequence(1)
	l := [][]api.Post{nil, {}}
	for n := range 42 {
		l = append(l, q.posts(n, 1), q.posts(n, 3), q.posts(n, 1<<20))
	}
	for n := 1; n < 10; n++ {
		for great := range n {
			x := make([]api.Post, n)
			for i := range x {
				x[i] = api.Post{Doc: 3 * i, Weight: 5}
			}
			x[great].Weight = 9
			l = append(l, x)
		}
	}
	return append(l,
		[]api.Post{{Doc: 0, Weight: 1}},
		[]api.Post{{Doc: 0, Weight: mostWeight}},
		[]api.Post{{Doc: mostDoc, Weight: 1}},
		[]api.Post{{Doc: mostDoc, Weight: mostWeight}},
		[]api.Post{{Doc: 0, Weight: 1}, {Doc: mostDoc, Weight: mostWeight}},
		[]api.Post{{Doc: 0, Weight: mostWeight}, {Doc: 1, Weight: 1}, {Doc: 2, Weight: 256}, {Doc: mostDoc - 1, Weight: 255}, {Doc: mostDoc, Weight: 1}},
		q.posts(1000, 7), q.posts(1003, 1))
}

// wrong are posts that are no list, each by one fault alone.
func wrong() [][]api.Post {
	l := [][]api.Post{}
	for _, p := range []api.Post{
		{Doc: -1, Weight: 1}, {Doc: -2, Weight: 1}, {Doc: math.MinInt, Weight: 1},
		{Doc: mostDoc + 1, Weight: 1}, {Doc: 1 << 32, Weight: 1}, {Doc: math.MaxInt, Weight: 1},
		{Doc: 1 << 20}, {Doc: 1 << 20, Weight: -1}, {Doc: 1 << 20, Weight: math.MinInt},
		{Doc: 1 << 20, Weight: mostWeight + 1}, {Doc: 1 << 20, Weight: mostWeight + 2}, {Doc: 1 << 20, Weight: math.MaxInt},
	} {
		l = append(l, []api.Post{p})
		for n := 1; n < 6; n++ {
			var x []api.Post
			for i := range n {
				x = append(x, api.Post{Doc: i, Weight: 1})
			}
			l = append(l, append([]api.Post{p}, x...), append(slices.Clone(x), p))
			// The posts behind it rise from where it stands.
			if p.Doc == 1<<20 {
				l = append(l, append(append(x, p), api.Post{Doc: 1<<20 + 1, Weight: 1}))
			}
		}
	}
	// The same document twice, and a falling one, at every place of nine.
	for i := 1; i < 9; i++ {
		for _, back := range []int{0, 1, 10} {
			x := make([]api.Post, 9)
			for k := range x {
				x[k] = api.Post{Doc: 100 + 20*k, Weight: 7}
			}
			x[i].Doc = x[i-1].Doc - back
			l = append(l, x)
		}
	}
	return append(l,
		[]api.Post{{Doc: 1, Weight: 2}, {Doc: 1, Weight: 2}},
		[]api.Post{{Doc: 1, Weight: 2}, {Doc: 1, Weight: 3}},
		[]api.Post{{Doc: 0, Weight: 1}, {Doc: 0, Weight: 1}},
		[]api.Post{{Doc: mostDoc, Weight: 1}, {Doc: mostDoc, Weight: 1}},
		[]api.Post{{Doc: mostDoc, Weight: 1}, {Doc: 0, Weight: 1}})
}

// built answers the list of posts that are one.
func built(t *testing.T, l []api.Post) *List {
	t.Helper()
	x, e := Build(l)
	if x == nil || e != api.OK {
		t.Fatalf("%v: refused: %v", l, e)
	}
	return x
}

// wordBlocks are the greatest weight and the last document of each block, as
// the chapter's words say it.
func wordBlocks(l []api.Post) [][2]int {
	blocks := [][2]int{}
	for i, p := range l {
		if i%4 == 0 {
			blocks = append(blocks, [2]int{})
		}
		b := &blocks[len(blocks)-1]
		b[0], b[1] = max(b[0], p.Weight), p.Doc
	}
	return blocks
}

// wordBytes are a list's bytes without their sum, as the chapter's words say
// it.
func wordBytes(docs, weights []int) string {
	b := binary.AppendUvarint(nil, uint64(len(docs)))
	last := -1
	for _, d := range docs {
		b = binary.AppendUvarint(b, uint64(d-last-1))
		last = d
	}
	for _, w := range weights {
		b = binary.LittleEndian.AppendUint16(b, uint16(w))
	}
	return string(b)
}

// sealed is s with its sum behind it.
func sealed(s string) string {
	return string(binary.LittleEndian.AppendUint32([]byte(s), crc32.ChecksumIEEE([]byte(s))))
}

// wordPrint are the bytes of the list of these posts.
func wordPrint(l []api.Post) string {
	var docs, weights []int
	for _, p := range l {
		docs, weights = append(docs, p.Doc), append(weights, p.Weight)
	}
	return sealed(wordBytes(docs, weights))
}

// holds checks all that a list tells, against the posts that it should have.
func holds(t *testing.T, x *List, l []api.Post) {
	t.Helper()
	most := 0
	for _, p := range l {
		most = max(most, p.Weight)
	}
	if x.Len() != len(l) || x.Max() != most || x.Blocks() != len(wordBlocks(l)) {
		t.Fatalf("%v: Len %d, Max %d, Blocks %d", l, x.Len(), x.Max(), x.Blocks())
	}
	if got := x.Posts(); !slices.Equal(got, l) {
		t.Fatalf("Posts %v, want %v", got, l)
	}
	if got := x.Print(); got != wordPrint(l) {
		t.Fatalf("%v: Print %x, want %x", l, got, wordPrint(l))
	}
}

func TestBuildKnown(t *testing.T) {
	for _, y := range []struct {
		l           []api.Post
		most, parts int
	}{
		{nil, 0, 0},
		{[]api.Post{{Doc: 7, Weight: 3}}, 3, 1},
		{[]api.Post{{Doc: 0, Weight: 3}, {Doc: 1, Weight: 4}, {Doc: 2, Weight: 2}}, 4, 1},
		{[]api.Post{{Doc: 0, Weight: 3}, {Doc: 1, Weight: 4}, {Doc: 2, Weight: 2}, {Doc: 9, Weight: 5}}, 5, 1},
		{[]api.Post{{Doc: 0, Weight: 3}, {Doc: 1, Weight: 4}, {Doc: 2, Weight: 2}, {Doc: 9, Weight: 5}, {Doc: 10, Weight: 1}}, 5, 2},
		{[]api.Post{{Doc: 0, Weight: 1}, {Doc: 1, Weight: 1}, {Doc: 2, Weight: 1}, {Doc: 3, Weight: 1}, {Doc: mostDoc, Weight: mostWeight}}, mostWeight, 2},
	} {
		x := built(t, y.l)
		if x.Len() != len(y.l) || x.Max() != y.most || x.Blocks() != y.parts || !slices.Equal(x.Posts(), y.l) {
			t.Errorf("%v: %d posts, Max %d, Blocks %d", x.Posts(), x.Len(), x.Max(), x.Blocks())
		}
	}
}

func TestBuildLikeTheWords(t *testing.T) {
	for _, l := range lists() {
		holds(t, built(t, l), l)
	}
}

func TestBuildRefuses(t *testing.T) {
	for _, l := range wrong() {
		if x, e := Build(l); x != nil || e != api.ErrRange {
			t.Errorf("%v: %v, %v", l, x, e)
		}
	}
}

func TestBuildLeavesWhatIsHandedIn(t *testing.T) {
	for _, l := range append(lists(), wrong()...) {
		// The spare room behind it is its owner's, too.
		roomy := make([]api.Post, len(l), len(l)+5)
		copy(roomy, l)
		for i := range 5 {
			roomy[:cap(roomy)][len(l)+i] = api.Post{Doc: -9, Weight: -i}
		}
		want := slices.Clone(roomy[:cap(roomy)])
		x, _ := Build(roomy)
		if x != nil {
			x.Print()
			x.Cursor().Seek(5)
			_ = append(x.Posts(), api.Post{Doc: 8, Weight: 8})
		}
		if !slices.Equal(roomy[:cap(roomy)], want) {
			t.Fatalf("%v became %v", want, roomy[:cap(roomy)])
		}
	}
}

func TestBuildKeepsNoArgument(t *testing.T) {
	for _, l := range lists() {
		mine := slices.Clone(l)
		x := built(t, mine)
		c := x.Cursor()
		for i := range mine {
			mine[i] = api.Post{Doc: 99 - i, Weight: -1}
		}
		holds(t, x, l)
		for i, p := range l {
			if got, ok := c.At(); got != p || !ok {
				t.Fatalf("post %d of %v: %v, %v", i, l, got, ok)
			}
			c.Next()
		}
	}
}

func TestPostsIsNewMemory(t *testing.T) {
	for _, l := range lists() {
		x := built(t, l)
		a, b := x.Posts(), x.Posts()
		whole := a[:cap(a)]
		for i := range whole {
			whole[i] = api.Post{Doc: -1, Weight: -1}
		}
		if !slices.Equal(b, l) {
			t.Fatalf("two answers share their memory: %v, want %v", b, l)
		}
		holds(t, x, l)
	}
}

func TestPrintKnown(t *testing.T) {
	for _, y := range []struct {
		l    []api.Post
		want string
	}{
		{nil, "\x00\x8d\xef\x02\xd2"},
		{[]api.Post{{Doc: 0, Weight: 1}}, sealed("\x01\x00\x01\x00")},
		{[]api.Post{{Doc: 1, Weight: 258}, {Doc: 4, Weight: 1}}, sealed("\x02\x01\x02\x02\x01\x01\x00")},
		{[]api.Post{{Doc: 0, Weight: 65535}, {Doc: 1, Weight: 256}, {Doc: 200, Weight: 255}}, sealed("\x03\x00\x00\xc6\x01\xff\xff\x00\x01\xff\x00")},
		{[]api.Post{{Doc: mostDoc, Weight: 65535}}, sealed("\x01\xff\xff\xff\xff\x07\xff\xff")},
		{[]api.Post{{Doc: 0, Weight: 1}, {Doc: mostDoc, Weight: 2}}, sealed("\x02\x00\xfe\xff\xff\xff\x07\x01\x00\x02\x00")},
	} {
		x := built(t, y.l)
		for range 2 {
			if got := x.Print(); got != y.want {
				t.Errorf("%v: %x, want %x", y.l, got, y.want)
			}
		}
	}
}

func TestParseWhatWasPrinted(t *testing.T) {
	for _, l := range lists() {
		x := built(t, l)
		y, e := Parse(x.Print())
		if y == nil || e != api.OK {
			t.Fatalf("%v: %v", l, e)
		}
		holds(t, y, l)
		sameCursors(t, x, y)
	}
}

// sameCursors checks that the cursors of both lists stand and tell alike.
func sameCursors(t *testing.T, x, y *List) {
	t.Helper()
	a, b := x.Cursor(), y.Cursor()
	for range x.Len() + 2 {
		p, ok := a.At()
		if q, also := b.At(); q != p || also != ok {
			t.Fatalf("%v, %v and %v, %v", p, ok, q, also)
		}
		most, last := a.Block(p.Doc)
		if m, l := b.Block(p.Doc); m != most || l != last {
			t.Fatalf("block of %d: %d, %d and %d, %d", p.Doc, most, last, m, l)
		}
		a.Next()
		b.Next()
	}
}

func TestParseOfGreatLists(t *testing.T) {
	q := sequence(2)
	for _, n := range []int{1<<16 - 1, 1 << 16, 1<<16 + 1, 1 << 17, 1<<17 + 1, 200001} {
		l := q.posts(n, 4)
		s := built(t, l).Print()
		if s != wordPrint(l) {
			t.Errorf("%d posts: other bytes than the words tell", n)
		}
		x, e := Parse(s)
		if e != api.OK || !slices.Equal(x.Posts(), l) || x.Blocks() != (n+3)/4 {
			t.Errorf("%d posts aren't parsed: %v", n, e)
		}
		open := s[:len(s)-4]
		for _, cut := range []string{open[:len(open)-1], open[:len(open)-2], open + "\x01", open + "\x01\x00"} {
			if x, e := Parse(sealed(cut)); x != nil || e != api.ErrForm {
				t.Errorf("%d posts, %d bytes of %d: %v", n, len(cut), len(open), e)
			}
		}
	}
}

// noLists are sealed, and no list's bytes.
func noLists() []string {
	l := []string{
		"",
		"\x00\x00", "\x00x", "\x00\x01\x00", // bytes behind no posts
		"\x01", "\x01\x01", "\x01\x01\x01", // bytes missing
		"\x01\x80\x00\x01\x00",                                  // a document with a byte too many
		"\x81\x00\x01\x01\x00",                                  // how many, with a byte too many
		"\x80\x00",                                              // none, with a byte too many
		"\x02\x00\x80\x00\x01\x00\x01\x00",                      // a difference with a byte too many
		"\xff\xff\xff\xff\x07",                                  // so many that aren't there
		"\x80\x80\x80\x80\x08",                                  // as many as there are documents
		"\xff\xff\xff\xff\xff\xff\xff\xff\x7f",                  // more than there can be
		"\xff\xff\xff\xff\xff\xff\xff\xff\xff\x01",              // no varint
		"\x01\xff\xff\xff\xff\xff\xff\xff\xff\xff\x01\x01\x00",  // a document that is none
		"\x02\x00\xff\xff\xff\xff\xff\xff\xff\xff\x7f\x01\x00x", // beyond all numbers
		strings.Repeat("\x00", 100),
		strings.Repeat("\xff", 100),
	}
	for _, y := range []struct{ docs, weights []int }{
		{nil, []int{1}},
		{[]int{1}, nil},
		{[]int{1}, []int{1, 1}},
		{[]int{1, 2}, []int{1}},
		{[]int{1, 2, 3, 4, 5}, []int{1, 1, 1, 1}},
		{[]int{1, 2, 3, 4}, []int{1, 1, 1, 1, 1}},
		{[]int{0}, []int{0}},
		{[]int{1}, []int{0}},
		{[]int{1, 2, 3}, []int{0, 1, 1}},
		{[]int{1, 2, 3}, []int{1, 0, 1}},
		{[]int{1, 2, 3}, []int{1, 1, 0}},
		{[]int{1, 2, 3, 4, 5}, []int{1, 1, 1, 1, 0}},
		{[]int{mostDoc + 1}, []int{1}},
		{[]int{mostDoc, mostDoc + 1}, []int{1, 1}},
		{[]int{0, 1, 2, 3, 1 << 32}, []int{1, 1, 1, 1, 1}},
		{[]int{math.MaxInt}, []int{1}},
	} {
		l = append(l, wordBytes(y.docs, y.weights))
	}
	return l
}

func TestParseOfWhatIsNoList(t *testing.T) {
	for _, s := range noLists() {
		if x, e := Parse(sealed(s)); x != nil || e != api.ErrForm {
			t.Errorf("%x: %v, %v", s, x, e)
		}
	}
	for _, l := range lists() {
		s := wordPrint(l)
		open := s[:len(s)-4]
		for n := range len(open) {
			if x, e := Parse(sealed(open[:n])); x != nil || e != api.ErrForm {
				t.Fatalf("%d bytes of %x: %v", n, open, e)
			}
		}
		for _, tail := range []string{"\x00", "\x01", "\x01\x00", s} {
			if x, e := Parse(sealed(open + tail)); x != nil || e != api.ErrForm {
				t.Fatalf("%x behind %x: %v", tail, open, e)
			}
		}
	}
}

func TestParseOfWhatIsNotSealed(t *testing.T) {
	for _, s := range []string{"", "a", "\x00", "abc", "\x00\x00\x00"} {
		if x, e := Parse(s); x != nil || e != api.ErrForm {
			t.Errorf("%x: %v", s, e)
		}
	}
	for _, s := range []string{"abcd", "\x00\x00\x00\x01", "\x00abcd", "\x01\x01\x01\x00abcd", strings.Repeat("x", 100)} {
		if x, e := Parse(s); x != nil || e != api.ErrCorrupt {
			t.Errorf("%x: %v", s, e)
		}
	}
	for _, l := range lists() {
		s := wordPrint(l)
		for _, tail := range []string{"\x00", "x", "abcd"} {
			if x, e := Parse(s + tail); x != nil || e != api.ErrCorrupt {
				t.Fatalf("%x behind %x: %v", tail, s, e)
			}
		}
	}
}

func TestParseWithABitTurned(t *testing.T) {
	for _, l := range lists() {
		s := wordPrint(l)
		for bit := range min(len(s)*8, 1000) {
			b := []byte(s)
			b[bit/8] ^= 1 << (bit % 8)
			if x, e := Parse(string(b)); x != nil || e != api.ErrCorrupt {
				t.Fatalf("bit %d of %x: %v", bit, s, e)
			}
		}
	}
}

// TestParseOfAnyBytes: what is parsed is a list, and was written just so.
func TestParseOfAnyBytes(t *testing.T) {
	q, some := sequence(3), 0
	kinds := []byte{0, 0, 1, 1, 1, 2, 3, 4, 0x7f, 0x80, 0x81, 0xff}
	for range 100000 {
		b := make([]byte, q.below(16))
		for i := range b {
			b[i] = kinds[q.below(len(kinds))]
		}
		s := sealed(string(b))
		x, e := Parse(s)
		if e != api.OK {
			if x != nil || e != api.ErrForm {
				t.Fatalf("%x: %v, %v", b, x, e)
			}
			continue
		}
		some++
		if x.Print() != s {
			t.Fatalf("%x is printed as %x", s, x.Print())
		}
		if y, e := Build(x.Posts()); e != api.OK || y.Print() != s {
			t.Fatalf("%x: its posts are no list: %v", s, x.Posts())
		}
	}
	if some < 1000 {
		t.Errorf("only %d are lists", some)
	}
}

// stands checks that a cursor stands at the post of that place, or behind all.
func stands(t *testing.T, c *Cursor, l []api.Post, place int) {
	t.Helper()
	var want api.Post
	if place < len(l) {
		want = l[place]
	}
	for range 2 {
		if p, ok := c.At(); p != want || ok != (place < len(l)) {
			t.Fatalf("place %d of %v: %v, %v", place, l, p, ok)
		}
	}
}

func TestNext(t *testing.T) {
	for _, l := range lists() {
		c := built(t, l).Cursor()
		for i := range len(l) + 5 {
			stands(t, c, l, min(i, len(l)))
			c.Next()
		}
	}
}

func TestSeekKnown(t *testing.T) {
	l := []api.Post{{Doc: 2, Weight: 1}, {Doc: 3, Weight: 9}, {Doc: 7, Weight: 2}, {Doc: 10, Weight: 3}, {Doc: 11, Weight: 4}, {Doc: 20, Weight: 5}}
	for _, steps := range [][][2]int{
		{{2, 0}, {3, 1}, {7, 2}, {10, 3}, {11, 4}, {20, 5}, {21, 6}},
		{{0, 0}, {-1, 0}, {math.MinInt, 0}, {1, 0}, {4, 2}, {5, 2}, {3, 2}, {0, 2}, {-7, 2}, {8, 3}, {12, 5}, {2, 5}},
		{{10, 3}, {10, 3}, {2, 3}, {11, 4}, {10, 4}},
		{{11, 4}, {4, 4}},
		{{20, 5}, {21, 6}, {20, 6}, {0, 6}, {-1, 6}, {math.MinInt, 6}},
		{{mostDoc, 6}, {2, 6}}, {{mostDoc + 1, 6}, {2, 6}}, {{math.MaxInt, 6}, {2, 6}},
		{{-1, 0}, {math.MinInt, 0}, {20, 5}},
	} {
		c := built(t, l).Cursor()
		for _, s := range steps {
			c.Seek(s[0])
			stands(t, c, l, s[1])
		}
	}
	c := built(t, l).Cursor()
	c.Seek(21)
	c.Next()
	stands(t, c, l, 6)
	c = built(t, []api.Post{{Doc: mostDoc - 1, Weight: 1}, {Doc: mostDoc, Weight: 1}}).Cursor()
	c.Seek(mostDoc)
	if p, ok := c.At(); p.Doc != mostDoc || !ok {
		t.Error(p, ok)
	}
}

func TestCursorOfNoPosts(t *testing.T) {
	x := built(t, nil)
	for _, doc := range []int{math.MinInt, -1, 0, 1, mostDoc, mostDoc + 1, math.MaxInt} {
		c := x.Cursor()
		stands(t, c, nil, 0)
		c.Seek(doc)
		stands(t, c, nil, 0)
		c.Next()
		stands(t, c, nil, 0)
		if most, last := c.Block(doc); most != 0 || last != -1 {
			t.Errorf("block of %d: %d, %d", doc, most, last)
		}
	}
}

// targets are documents of l, those beside them, and numbers far off.
func targets(l []api.Post) []int {
	d := []int{math.MinInt, -2, -1, 0, 1, mostDoc - 1, mostDoc, mostDoc + 1, 1 << 32, math.MaxInt}
	for _, p := range l {
		d = append(d, p.Doc-1, p.Doc, p.Doc+1)
	}
	return d
}

// TestSeekComesToWhereNextWould seeks, from each place of a list, each document.
func TestSeekComesToWhereNextWould(t *testing.T) {
	for _, l := range lists() {
		if len(l) > 100 {
			continue
		}
		x, seen := built(t, l), targets(l)
		for from := range len(l) + 1 {
			for _, doc := range seen {
				c, n, place := x.Cursor(), x.Cursor(), from
				for range from {
					c.Next()
					n.Next()
				}
				c.Seek(doc)
				for p, ok := n.At(); ok && p.Doc < doc; p, ok = n.At() {
					n.Next()
					place++
				}
				stands(t, n, l, place)
				stands(t, c, l, place)
				c.Next()
				stands(t, c, l, min(place+1, len(l)))
			}
		}
	}
}

func TestSeekAndNextInRows(t *testing.T) {
	q := sequence(4)
	for range 300 {
		l := q.posts(q.below(300), 1+q.below(9))
		c, place := built(t, l).Cursor(), 0
		for range 60 {
			if q.below(3) == 0 {
				c.Next()
				place = min(place+1, len(l))
			} else {
				doc := q.below(400+len(l)) - 5
				c.Seek(doc)
				for place < len(l) && l[place].Doc < doc {
					place++
				}
			}
			stands(t, c, l, place)
		}
	}
}

func TestBlockKnown(t *testing.T) {
	x := built(t, []api.Post{
		{Doc: 2, Weight: 1}, {Doc: 3, Weight: 9}, {Doc: 7, Weight: 2}, {Doc: 10, Weight: 3},
		{Doc: 15, Weight: 4}, {Doc: 20, Weight: 5}, {Doc: 21, Weight: 5}, {Doc: 22, Weight: 1},
		{Doc: 30, Weight: 1}, {Doc: 40, Weight: 7},
	})
	for _, y := range []struct{ doc, most, last int }{
		{math.MinInt, 9, 10}, {-1, 9, 10}, {0, 9, 10}, {2, 9, 10}, {4, 9, 10}, {10, 9, 10},
		{11, 5, 22}, {15, 5, 22}, {16, 5, 22}, {22, 5, 22},
		{23, 7, 40}, {30, 7, 40}, {31, 7, 40}, {40, 7, 40},
		{41, 0, -1}, {mostDoc, 0, -1}, {mostDoc + 1, 0, -1}, {math.MaxInt, 0, -1},
	} {
		if most, last := x.Cursor().Block(y.doc); most != y.most || last != y.last {
			t.Errorf("block of %d: %d, %d, want %d, %d", y.doc, most, last, y.most, y.last)
		}
	}
}

// TestBlockHangsOnNoPlace asks for the blocks at each place of a cursor, which
// stays there.
func TestBlockHangsOnNoPlace(t *testing.T) {
	for _, l := range lists() {
		if len(l) > 100 {
			continue
		}
		blocks, seen := wordBlocks(l), targets(l)
		c := built(t, l).Cursor()
		for place := range len(l) + 1 {
			for _, doc := range seen {
				want := [2]int{0, -1}
				if i := slices.IndexFunc(blocks, func(b [2]int) bool { return b[1] >= doc }); i >= 0 {
					want = blocks[i]
				}
				if most, last := c.Block(doc); most != want[0] || last != want[1] {
					t.Fatalf("%v at %d: block of %d: %d, %d, want %v", l, place, doc, most, last, want)
				}
			}
			stands(t, c, l, place)
			c.Next()
		}
	}
}

func TestCursorsAreApart(t *testing.T) {
	q := sequence(5)
	l := q.posts(20, 5)
	x := built(t, l)
	a, b := x.Cursor(), x.Cursor()
	a.Next()
	a.Seek(l[9].Doc)
	stands(t, b, l, 0)
	b.Seek(l[3].Doc)
	stands(t, a, l, 9)
	stands(t, b, l, 3)
	stands(t, x.Cursor(), l, 0)
	holds(t, x, l)
}

func TestPiecesThatAreBrokenOff(t *testing.T) {
	for stop := range 5 {
		var got [][2]int
		for from, to := range pieces(10, 3) {
			got = append(got, [2]int{from, to})
			if len(got) > stop {
				break
			}
		}
		want := [][2]int{{0, 3}, {3, 6}, {6, 9}, {9, 10}}
		if want = want[:min(stop+1, 4)]; !slices.Equal(got, want) {
			t.Errorf("broken off at %d: %v", stop, got)
		}
	}
}
