package doc

import (
	"encoding/binary"
	"math"
	"slices"
	"strings"
	"testing"
	"unsafe"

	"rankloft/api"
	"rankloft/pack"
)

// printed answers the bytes of a right change.
func printed(t *testing.T, c Change) string {
	t.Helper()
	s, e := Print(c)
	if e != api.OK {
		t.Fatalf("%v isn't printed: %d", c, e)
	}
	return s
}

func TestPrintKnown(t *testing.T) {
	const noughts, ones = "\x80\x80\x80\x80\x80\x80\x80\x80", "\x81\x81\x81\x81\x81\x81\x81\x81"
	for _, x := range []struct {
		c    Change
		want string
	}{
		{gone(5), "\x05\x01"},
		{gone(0), "\x00\x01"},
		{gone(300), "\xac\x02\x01"},
		{gone(mostDoc), "\xff\xff\xff\xff\x07\x01"},
		{put(), "\x00\x00\x00" + noughts + "\x00"},
		{put(api.Term{Term: 0, Weight: 1}), "\x00\x00\x01\x00\x01\x00" + noughts + "\x00"},
		{put(api.Term{Term: mostTerm, Weight: mostWeight}), "\x00\x00\x01\xff\xff\x3f\xff\xff" + noughts + "\x00"},
		{put(api.Term{Term: 1, Weight: 258}, api.Term{Term: 2, Weight: 256}, api.Term{Term: 202, Weight: 255}), "\x00\x00\x03\x01\x00\xc7\x01\x02\x01\x00\x01\xff\x00" + noughts + "\x00"},
		{Change{Record: Record{Doc: 127, V: all(1), Tags: 1}}, "\x7f\x00\x00" + ones + "\x01"},
		{Change{Record: Record{Doc: mostDoc, V: all(-size), Tags: 128}}, "\xff\xff\xff\xff\x07\x00\x00\x01\x01\x01\x01\x01\x01\x01\x01\x80"},
		{Change{Record: Record{Doc: 300, Terms: []api.Term{{Term: 1, Weight: 258}, {Term: 3, Weight: 1}}, V: []int{0, 1, -1, size, -size, 2, -2, 64}, Tags: allTags}}, "\xac\x02\x00\x02\x01\x01\x02\x01\x01\x00\x80\x81\x7f\xff\x01\x82\x7e\xc0\xff"},
	} {
		for range 2 {
			if s := printed(t, x.c); s != x.want {
				t.Errorf("%v: %x, want %x", x.c, s, x.want)
			}
		}
	}
}

func TestPrintAsTheWords(t *testing.T) {
	for _, c := range rights() {
		if s, u := printed(t, c), printed(t, empty(c)); s != bytesOf(c) || u != s {
			t.Fatalf("%v: %x and %x, want %x", c, s, u, bytesOf(c))
		}
	}
}

func TestUnlikeChangesHaveUnlikeBytes(t *testing.T) {
	whose := map[string]Change{}
	for _, c := range rights() {
		s := printed(t, c)
		if d, ok := whose[s]; ok && !alike(c, d) {
			t.Fatalf("%v and %v: %x", c, d, s)
		}
		whose[s] = c
	}
	base := Change{Record: Record{Doc: 9, Terms: row(5, 3), V: []int{1, 2, 3, 4, 5, 6, 7, 8}, Tags: 3}}
	for i, do := range unlike() {
		c := alter(base, do)
		if s, e := Print(c); e == api.OK && s == printed(t, base) {
			t.Errorf("%d: %v and %v: %x", i, base, c, s)
		}
	}
}

// parses checks that s is parsed as a change.
func parses(t *testing.T, s string, want Change) {
	t.Helper()
	for range 2 {
		if c, e := Parse(s); e != api.OK || !alike(c, want) || !Same(c, want) || Right(c) != api.OK {
			t.Fatalf("%x: %v, %d, want %v", s, c, e, want)
		}
	}
}

// refuses checks that s isn't parsed.
func refuses(t *testing.T, s string) {
	t.Helper()
	for range 2 {
		if c, e := Parse(s); e != api.ErrForm || !alike(c, Change{}) {
			t.Fatalf("%x: %v, %d", s, c, e)
		}
	}
}

func TestParseWhatWasPrinted(t *testing.T) {
	for _, c := range rights() {
		parses(t, printed(t, c), c)
	}
}

func TestParseOfBeginningsAndMore(t *testing.T) {
	refuses(t, "")
	for i, c := range rights() {
		s := printed(t, c)
		for n := range len(s) {
			refuses(t, s[:n])
		}
		for b := range 256 {
			if i%50 == 0 || b%85 == 0 {
				refuses(t, s+string([]byte{byte(b)}))
			}
		}
		refuses(t, s+s)
	}
}

// varint answers the bytes of a number.
func varint(n int) string { return string(binary.AppendUvarint(nil, uint64(n))) }

// long answers the bytes of a number with so many more than must be.
func long(n, more int) string {
	b := binary.AppendUvarint(nil, uint64(n))
	for range more {
		b[len(b)-1] |= 0x80
		b = append(b, 0)
	}
	return string(b)
}

// behindTerms is what stands behind the terms of a document of noughts.
const behindTerms = "\x80\x80\x80\x80\x80\x80\x80\x80\x00"

func TestParseOfTheSecondNumber(t *testing.T) {
	for _, doc := range []int{0, 5, 300, mostDoc} {
		parses(t, varint(doc)+varint(1), gone(doc))
		parses(t, varint(doc)+varint(0)+"\x00"+behindTerms, alter(put(), func(c *Change) { c.Doc = doc }))
		refuses(t, varint(doc)+varint(0))
		for _, n := range []int{2, 3, 127, 128, 129, 255, 256, 257, 1 << 32, 1<<32 + 1, math.MaxInt} {
			refuses(t, varint(doc)+varint(n))
			refuses(t, varint(doc)+varint(n)+"\x00"+behindTerms)
		}
	}
}

func TestParseOfGoneWithBytesBehind(t *testing.T) {
	for _, doc := range []int{0, 5, mostDoc} {
		s := varint(doc) + "\x01"
		for b := range 256 {
			refuses(t, s+string([]byte{byte(b)}))
		}
		for _, behind := range []string{"\x00" + behindTerms, behindTerms, s, strings.Repeat("\x00", 100), varint(doc) + "\x00\x00" + behindTerms} {
			refuses(t, s+behind)
		}
	}
}

func TestParseOfLongVarints(t *testing.T) {
	for more := range 9 {
		check := func(s string, want Change) {
			t.Helper()
			if more == 0 {
				parses(t, s, want)
			} else {
				refuses(t, s)
			}
		}
		for _, doc := range []int{0, 5, 128, mostDoc} {
			check(long(doc, more)+"\x01", gone(doc))
			check(varint(doc)+long(1, more), gone(doc))
			want := alter(put(), func(c *Change) { c.Doc = doc })
			check(long(doc, more)+"\x00\x00"+behindTerms, want)
			check(varint(doc)+long(0, more)+"\x00"+behindTerms, want)
			check(varint(doc)+"\x00"+long(0, more)+behindTerms, want)
		}
		for _, gap := range []int{0, 9, 127, 128, 1 << 14} {
			weights := "\x01\x00\x02\x00"
			want := put(api.Term{Term: gap, Weight: 1}, api.Term{Term: 2*gap + 1, Weight: 2})
			check("\x00\x00"+long(2, more)+varint(gap)+varint(gap)+weights+behindTerms, want)
			check("\x00\x00\x02"+long(gap, more)+varint(gap)+weights+behindTerms, want)
			check("\x00\x00\x02"+varint(gap)+long(gap, more)+weights+behindTerms, want)
		}
	}
}

func TestParseOutOfRange(t *testing.T) {
	great := []int{1 << 31, 1<<31 + 1, 1 << 32, 1<<32 + 5, 1 << 62, math.MaxInt}
	for _, n := range great {
		refuses(t, varint(n)+"\x01")
		refuses(t, varint(n)+"\x00\x00"+behindTerms)
	}
	refuses(t, "\xff\xff\xff\xff\xff\xff\xff\xff\xff\x01\x01")
	for _, n := range append(great, mostTerm+1, mostTerm+2) {
		refuses(t, "\x00\x00\x01"+varint(n)+"\x01\x00"+behindTerms)
		refuses(t, "\x00\x00\x02\x05"+varint(n-6)+"\x01\x00\x01\x00"+behindTerms)
		refuses(t, "\x00\x00\x02\x05"+varint(n)+"\x01\x00\x01\x00"+behindTerms)
	}
	parses(t, "\x00\x00\x02\x05"+varint(mostTerm-6)+"\x01\x00\x01\x00"+behindTerms, put(api.Term{Term: 5, Weight: 1}, api.Term{Term: mostTerm, Weight: 1}))
	refuses(t, "\x00\x00\x02\x05\xff\xff\xff\xff\xff\xff\xff\xff\xff\x01\x01\x00\x01\x00"+behindTerms)
}

func TestParseOfEachWeightAndNumber(t *testing.T) {
	two := api.Term{Term: 9, Weight: 1}
	refuses(t, "\x00\x00\x01\x05\x00\x00"+behindTerms)
	refuses(t, "\x00\x00\x02\x05\x03\x00\x00\x01\x00"+behindTerms)
	refuses(t, "\x00\x00\x02\x05\x03\x01\x00\x00\x00"+behindTerms)
	for _, w := range []int{1, 2, 255, 256, 257, 1 << 15, mostWeight - 1, mostWeight} {
		s := string([]byte{byte(w), byte(w >> 8)})
		parses(t, "\x00\x00\x01\x05"+s+behindTerms, put(api.Term{Term: 5, Weight: w}))
		parses(t, "\x00\x00\x02\x05\x03"+s+"\x01\x00"+behindTerms, put(api.Term{Term: 5, Weight: w}, two))
	}
	for at := range dims {
		for b := range 256 {
			v := []byte(behindTerms)
			v[at] = byte(b)
			if b == 0 {
				refuses(t, "\x00\x00\x00"+string(v))
			} else {
				parses(t, "\x00\x00\x00"+string(v), alter(put(), func(c *Change) { c.V[at] = b - 128 }))
			}
		}
	}
}

func TestParseOfTooMany(t *testing.T) {
	with := func(n int) string {
		return "\x00\x00" + varint(n) + strings.Repeat("\x00", n) + strings.Repeat("\x01\x00", n) + behindTerms
	}
	for _, n := range []int{0, 1, mostTerms - 1, mostTerms} {
		want := put(row(0, n)...)
		for i := range want.Terms {
			want.Terms[i].Weight = 1
		}
		parses(t, with(n), want)
	}
	for _, n := range []int{mostTerms + 1, mostTerms + 2, 127, 128, 300, 1 << 16, 1 << 20} {
		refuses(t, with(n))
	}
	for _, n := range []int{1 << 31, 1 << 32, 1 << 40, math.MaxInt} {
		refuses(t, "\x00\x00"+varint(n)+behindTerms)
	}
}

// edited answers s with some of its bytes turned, cut out or put in.
func (q *sequence) edited(s string) string {
	b := []byte(s)
	for range q.below(3) + 1 {
		at := q.below(len(b) + 1)
		switch q.below(4) {
		case 0:
			b = slices.Insert(b, at, byte(q.below(256)))
		case 1:
			b = b[:at]
		default:
			if at < len(b) {
				b[at] = []byte{0, 1, 2, 0x7f, 0x80, 0xff, byte(q.below(256)), b[at] + 1}[q.below(8)]
			}
		}
	}
	return string(b)
}

// anyBytes are rows of bytes of which some are a change's.
func anyBytes() []string {
	var l []string
	q := sequence(3)
	for _, c := range rights() {
		s, _ := Print(c)
		for range 30 {
			l = append(l, q.edited(s))
		}
	}
	for range 20000 {
		b := make([]byte, q.below(20))
		for i := range b {
			b[i] = byte(q.below(256) >> q.below(8))
		}
		l = append(l, string(b))
	}
	for a := range 256 {
		for b := range 256 {
			l = append(l, string([]byte{byte(a), byte(b)}), string([]byte{byte(a), byte(b), 1}))
		}
	}
	return l
}

func TestParseOfAnyBytes(t *testing.T) {
	parsed := 0
	for _, s := range anyBytes() {
		want, n, ok := changeAhead(s)
		if !ok || n != len(s) {
			refuses(t, s)
			continue
		}
		parses(t, s, want)
		if c, _ := Parse(s); printed(t, c) != s {
			t.Fatalf("%x is printed as %x", s, printed(t, c))
		}
		parsed++
	}
	if parsed < 1000 {
		t.Error("parsed:", parsed)
	}
}

func TestReadOfAnyBytes(t *testing.T) {
	for _, s := range anyBytes() {
		want, n, there := changeAhead(s)
		r := pack.New(s)
		c, ok := Read(r)
		if ok != there || !alike(c, want) {
			t.Fatalf("%x: %v, %v, want %v, %v", s, c, ok, want, there)
		}
		if ok && (r.Bad() || r.Bytes(r.Left()) != s[n:]) {
			t.Fatalf("%x: not its own %d bytes went off the front", s, n)
		}
	}
}

func TestReadOfOneAndMore(t *testing.T) {
	l := rights()
	var whole strings.Builder
	for _, c := range l {
		s := printed(t, c)
		whole.WriteString(s)
		for _, behind := range []string{"", "x", "\x00", "\xff\xff", s} {
			r := pack.New(s + behind)
			if d, ok := Read(r); !ok || !alike(c, d) || r.Left() != len(behind) || r.Bad() || r.Bytes(len(behind)) != behind {
				t.Fatalf("%x with %x behind: %v, %v", s, behind, d, ok)
			}
		}
	}
	r, left := pack.New("ahead"+whole.String()+"\x7f"), whole.Len()+1
	r.Bytes(len("ahead"))
	for _, c := range l {
		left -= len(printed(t, c))
		if d, ok := Read(r); !ok || !alike(c, d) || r.Left() != left {
			t.Fatalf("%v, %v with %d left, want %v with %d", d, ok, r.Left(), c, left)
		}
	}
	if r.Varint() != 0x7f || r.Bad() {
		t.Error("what stands behind all isn't there")
	}
}

func TestReadOfNone(t *testing.T) {
	bad := pack.New("\x05\x01")
	bad.Bytes(3)
	readers := []*pack.Reader{bad, pack.New(""), pack.New("\x05"), pack.New("\x05\x02"), pack.New("\x80"), pack.New("\x00\x00\x00" + behindTerms[1:])}
	done := pack.New("\x05\x01")
	Read(done)
	for i, r := range append(readers, done) {
		for range 2 {
			if c, ok := Read(r); ok || !alike(c, Change{}) {
				t.Errorf("%d: %v, %v", i, c, ok)
			}
		}
	}
}

func TestAnswersAreNewMemory(t *testing.T) {
	for _, c := range rights() {
		s := printed(t, c)
		mine := []byte(s)
		text := unsafe.String(unsafe.SliceData(mine), len(mine))
		r := pack.New(text + text)
		first, _ := Parse(text)
		second, _ := Parse(text)
		third, _ := Read(r)
		for i := range mine {
			mine[i] = 0xee
		}
		fourth, _ := Read(r)
		for i, d := range []Change{first, second, third, fourth} {
			if !alike(c, d) {
				t.Fatalf("%d of %v: %v", i, c, d)
			}
			spoil(d)
		}
		if u := printed(t, c); u != s {
			t.Fatalf("%v: %x, want %x", c, u, s)
		}
	}
}

// spoil overwrites a change's lists, and their spare room.
func spoil(c Change) {
	terms, v := c.Terms[:cap(c.Terms)], c.V[:cap(c.V)]
	for i := range terms {
		terms[i] = api.Term{Term: -1, Weight: -1}
	}
	for i := range v {
		v[i] = -1000
	}
}

func TestPrintKeepsNothing(t *testing.T) {
	for _, c := range rights() {
		mine := clone(c)
		s := printed(t, mine)
		spoil(mine)
		if s != bytesOf(c) || printed(t, c) != s {
			t.Fatalf("%v: %x", c, s)
		}
	}
}

func TestExample(t *testing.T) {
	c := Change{Record: Record{Doc: 5}, Gone: true}
	if s := printed(t, c); s != "\x05\x01" {
		t.Errorf("%x", s)
	}
	parses(t, "\x05\x01", c)
}
