package hybrid

import (
	"math"
	"slices"
	"strings"
	"testing"

	"rankloft/api"
	"rankloft/doc"
)

// printed is a request with its bytes, by hand.
type printed struct {
	r Request
	s string
}

func known() []printed {
	return []printed{
		{goes(5), "\x00\x05\x01"},
		{puts(doc.Record{Doc: 300, V: vec()}), "\x00\xac\x02\x00\x00\x80\x80\x80\x80\x80\x80\x80\x80\x00"},
		{puts(doc.Record{Doc: 1, Terms: terms(1, 258, 3, 1), V: vec(0, 1, -1, 127, -127), Tags: 255}), "\x00\x01\x00\x02\x01\x01\x02\x01\x01\x00\x80\x81\x7f\xff\x01\x80\x80\x80\xff"},
		{gets(0), "\x01\x00"},
		{gets(127), "\x01\x7f"},
		{gets(128), "\x01\x80\x01"},
		{gets(math.MaxInt), "\x01\xff\xff\xff\xff\xff\xff\xff\xff\x7f"},
		{flushes(), "\x02"},
		{merges(), "\x03"},
		{asks(Query{}), "\x04\x00\x00\x00\x00\x00\x00\x00\x00\x00\x00\x00"},
		{asks(Query{Kind: 1, Way: 2, Terms: terms(3, 4, 300, 6), V: []int{1, -1, 64, -64}, Measure: 7, K: 8, Depth: 9, C: 10, A: 11, B: 12, Tags: 13}), "\x04\x01\x02\x02\x03\x04\xac\x02\x06\x04\x02\x01\x80\x01\x7f\x07\x08\x09\x0a\x0b\x0c\x0d"},
		{asks(Query{Kind: 3, V: []int{math.MaxInt, math.MinInt}, Tags: 128}), "\x04\x03\x00\x00\x02\xfe\xff\xff\xff\xff\xff\xff\xff\xff\x01\xff\xff\xff\xff\xff\xff\xff\xff\xff\x01\x00\x00\x00\x00\x00\x00\x80\x01"},
		{counts(), "\x05"},
	}
}

// prints holds a request's bytes, there and back.
func prints(t *testing.T, r Request, want string) {
	t.Helper()
	if s, f := Print(r); f != api.OK || s != want {
		t.Fatalf("%+v: %x, error %d, want %x", r, s, f, want)
	}
	if u, f := Parse(want); f != api.OK || !same(u, r) {
		t.Fatalf("%x: %+v, error %d, want %+v", want, u, f, r)
	}
}

// unprinted holds that a request has no bytes.
func unprinted(t *testing.T, r Request, want api.Errno) {
	t.Helper()
	if s, f := Print(r); s != "" || f != want {
		t.Errorf("%+v: %x, error %d, want %d", r, s, f, want)
	}
}

// unparsed holds that bytes are no request.
func unparsed(t *testing.T, s string) {
	t.Helper()
	if r, f := Parse(s); f != api.ErrForm || !same(r, Request{}) {
		t.Fatalf("%x: %+v, error %d", s, r, f)
	}
}

func TestKnownBytes(t *testing.T) {
	for _, x := range known() {
		prints(t, x.r, x.s)
	}
}

func TestNoOp(t *testing.T) {
	for _, op := range []int{-1, 6, 7, 256, 1 << 32, math.MinInt, math.MaxInt} {
		r := puts(doc.Record{V: vec()})
		r.Op = op
		unprinted(t, r, api.ErrKind)
		// The Op comes ahead of all else.
		unprinted(t, Request{Op: op, Doc: -1, Query: Query{K: -1}}, api.ErrKind)
	}
	for op := 6; op < 300; op++ {
		for _, rest := range []string{"", "\x00", "\x05\x01", strings.Repeat("\x00", 11), strings.Repeat("\x00", 12)} {
			unparsed(t, varintsOf(op)+rest)
		}
	}
}

// Fields that an Op doesn't ask aren't told, whatever they are.
func TestNotTold(t *testing.T) {
	wild := Query{Kind: -1, Way: -1, Terms: terms(-1, -1), V: []int{5}, K: -1, Depth: -1, C: -1, A: -1, B: -1, Tags: -1, Measure: -1}
	for _, x := range known() {
		r := x.r
		if r.Op != 0 {
			r.Change = doc.Change{Record: doc.Record{Doc: -1, Tags: 999}, Gone: true}
		}
		if r.Op != 1 {
			r.Doc = -7
		}
		if r.Op != 4 {
			r.Query = wild
		}
		if s, f := Print(r); f != api.OK || s != x.s {
			t.Errorf("%+v: %x, error %d, want %x", r, s, f, x.s)
		}
	}
}

// A change that isn't right has layer 10's error.
func TestPrintChange(t *testing.T) {
	for i, x := range []struct {
		r    doc.Record
		gone bool
		want api.Errno
	}{
		{doc.Record{}, false, api.ErrForm}, {doc.Record{V: vec()[:7]}, false, api.ErrForm}, {doc.Record{V: vec(128)}, false, api.ErrForm}, {doc.Record{V: vec()}, true, api.ErrForm},
		{doc.Record{Doc: -1, V: vec()}, false, api.ErrRange}, {doc.Record{Doc: mostDoc + 1, V: vec()}, false, api.ErrRange}, {doc.Record{Tags: 256, V: vec()}, false, api.ErrRange},
		{doc.Record{Doc: -1}, true, api.ErrRange}, {doc.Record{Terms: terms(1, 0), V: vec()}, false, api.ErrRange}, {doc.Record{Terms: rising(0, 65), V: vec()}, false, api.ErrLong},
		{doc.Record{Terms: terms(1, 1, 1, 1), V: vec()}, false, api.ErrTwice}, {doc.Record{Terms: terms(2, 1, 1, 1), V: vec()}, false, api.ErrForm}, {doc.Record{Terms: make([]api.Term, 65)}, false, api.ErrRange},
	} {
		c := doc.Change{Record: x.r, Gone: x.gone}
		if doc.Right(c) != x.want {
			t.Fatal(i)
		}
		unprinted(t, Request{Change: c}, x.want)
		unprinted(t, Request{Change: c, Doc: -1, Query: Query{Kind: -1}}, x.want)
	}
}

// places are all numbers of a request that are varints.
func places() []func(r *Request) *int {
	return []func(r *Request) *int{
		func(r *Request) *int { return &r.Query.Kind }, func(r *Request) *int { return &r.Query.Way },
		func(r *Request) *int { return &r.Query.Terms[0].Term }, func(r *Request) *int { return &r.Query.Terms[0].Weight },
		func(r *Request) *int { return &r.Query.Terms[2].Term }, func(r *Request) *int { return &r.Query.Terms[2].Weight },
		func(r *Request) *int { return &r.Query.Measure }, func(r *Request) *int { return &r.Query.K }, func(r *Request) *int { return &r.Query.Depth },
		func(r *Request) *int { return &r.Query.C }, func(r *Request) *int { return &r.Query.A }, func(r *Request) *int { return &r.Query.B }, func(r *Request) *int { return &r.Query.Tags },
		func(r *Request) *int { return &r.Doc },
	}
}

// Any number that isn't below 0 is printed, and none that is.
func TestVarints(t *testing.T) {
	for i, place := range places() {
		for _, n := range []int{0, 1, 127, 128, 16383, 16384, mostDoc, 1 << 40, math.MaxInt, -1, -128, math.MinInt} {
			r := asks(Query{Terms: terms(9, 8, 7, 6, 5, 4), V: []int{-1, 5}})
			if i == len(places())-1 {
				r = gets(0)
			}
			*place(&r) = n
			if n < 0 {
				unprinted(t, r, api.ErrRange)
				continue
			}
			prints(t, r, bytesOf(r))
		}
	}
}

// Of a vector any numbers are told, and as many as there are.
func TestZigzags(t *testing.T) {
	ends := []int{0, -1, 1, 63, -64, 64, -65, 127, -127, 128, 1 << 62, -1 << 62, math.MaxInt, math.MinInt, math.MinInt + 1, math.MaxInt - 1}
	for n := range len(ends) + 1 {
		r := asks(Query{V: ends[:n]})
		prints(t, r, bytesOf(r))
	}
	// None of them is refused for being below 0.
	for _, n := range ends {
		r := asks(Query{Kind: 5, Terms: rising(3, 70), V: slices.Repeat([]int{n}, 300)})
		prints(t, r, bytesOf(r))
	}
}

// Bytes that are cut off anywhere, or have bytes behind, are none.
func TestCutOff(t *testing.T) {
	for seed := range 400 {
		s := sequence(seed)
		text := bytesOf(s.request())
		for n := range len(text) {
			unparsed(t, text[:n])
		}
		unparsed(t, text+string([]byte{byte(s.below(256))}))
	}
	for _, x := range known() {
		for n := range len(x.s) {
			unparsed(t, x.s[:n])
		}
		for _, behind := range []string{"\x00", "\x01", "\xff", "\x80\x00", x.s} {
			unparsed(t, x.s+behind)
		}
	}
	unparsed(t, "")
}

// A varint that is longer than it need be, or above its bound, is none.
func TestLongVarints(t *testing.T) {
	long := []string{"\x80\x00", "\x81\x00", "\x80\x80\x00", "\x80\x80\x80\x80\x80\x80\x80\x80\x80\x01", "\xff\xff\xff\xff\xff\xff\xff\xff\xff\x01", "\x80\x80\x80\x80\x80\x80\x80\x80\x80\x02", strings.Repeat("\x80", 20) + "\x00"}
	for _, l := range long {
		for _, rest := range []string{"", "\x05\x01", "\x00", strings.Repeat("\x00", 11)} {
			unparsed(t, l+rest)
		}
		unparsed(t, "\x01"+l)
		unparsed(t, "\x00"+l+"\x01")
		unparsed(t, "\x00\x05"+l)
		// Each number of a query but those of the vector, in its place.
		all := []string{"\x00", "\x00", "\x01", "\x01", "\x01", "\x01", "\x01", "\x01", "\x01", "\x01", "\x01", "\x01", "\x01", "\x01"}
		prints(t, asks(Query{Terms: terms(1, 1), V: []int{-1}, Measure: 1, K: 1, Depth: 1, C: 1, A: 1, B: 1, Tags: 1}), "\x04"+strings.Join(all, ""))
		for i := range all {
			u := slices.Clone(all)
			u[i] = l
			if i == 6 && len(l) == 10 && l[9] == 1 {
				continue // of ten bytes a zigzag may be
			}
			unparsed(t, "\x04"+strings.Join(u, ""))
		}
	}
}

// Counts that are more, or fewer, than what there is.
func TestCounts(t *testing.T) {
	tail := strings.Repeat("\x00", 7)
	for n := range 12 {
		q := Query{Terms: rising(1, n), V: slices.Repeat([]int{-3}, n)}
		prints(t, asks(q), bytesOf(asks(q)))
		for _, wrong := range []int{n + 1, n + 7, n + 8, n + 100, 1 << 31, 1 << 62, math.MaxInt} {
			s := "\x04\x00\x00" + varintsOf(wrong)
			for _, x := range q.Terms {
				s += varintsOf(x.Term, x.Weight)
			}
			if wrong > n+7 {
				unparsed(t, s+"\x00"+tail)
			}
			unparsed(t, s)
			unparsed(t, "\x04\x00\x00\x00"+varintsOf(wrong)+zigzagsOf(q.V...)+tail)
		}
		if n > 0 {
			unparsed(t, "\x04\x00\x00\x00"+varintsOf(n-1)+zigzagsOf(q.V...)+tail)
		}
	}
}

// A change that isn't right, or isn't written as it should be, is none.
func TestParseChange(t *testing.T) {
	v := strings.Repeat("\x80", 8)
	for _, s := range []string{
		"", "\x05", "\x05\x02", "\x05\x00", "\x05\x01\x00", "\x05\x00\x00" + v, "\x05\x00\x00" + v + "\x00\x00", "\x05\x00\x00\x00" + v[1:] + "\x00",
		"\x80\x80\x80\x80\x08\x01", "\x80\x80\x80\x80\x08\x00\x00" + v + "\x00", "\x05\x00\x01\x01\x00\x00" + v + "\x00", "\x05\x00\x01\x80\x80\x40\x01\x00" + v + "\x00",
		"\x05\x00" + varintsOf(65) + strings.Repeat("\x00", 65) + strings.Repeat("\x01\x00", 65) + v + "\x00",
	} {
		unparsed(t, "\x00"+s)
	}
	prints(t, puts(doc.Record{Doc: 5, Terms: terms(1<<20-1, 1), V: vec()}), "\x00\x05\x00\x01\xff\xff\x3f\x01\x00"+v+"\x00")
	prints(t, puts(doc.Record{Doc: mostDoc, Terms: rising(0, 64), V: vec(-127)}), "\x00"+varintsOf(mostDoc, 0, 64)+strings.Repeat("\x00", 64)+weights(64)+"\x01"+v[1:]+"\x00")
	prints(t, goes(mostDoc), "\x00"+varintsOf(mostDoc, 1))
}

// weights are those of rising terms, packed.
func weights(n int) string {
	var b []byte
	for i := range n {
		b = append(b, byte(1+i), 0)
	}
	return string(b)
}

// request answers any that may be printed, right or not to be done.
func (s *sequence) request() Request {
	switch s.below(8) {
	case 0, 1:
		return puts(s.record(s.one(s.below(30), mostDoc-s.below(3))))
	case 2:
		return goes(s.below(30))
	case 3:
		return gets(s.one(s.below(30), s.below(mostDoc)))
	case 4:
		return Request{Op: s.one(2, 3, 5)}
	}
	return asks(s.query())
}

// There and back, of drawn requests; and one request has one row of bytes.
func TestThereAndBack(t *testing.T) {
	s := sequence(1)
	for range 20000 {
		r := s.request()
		prints(t, r, bytesOf(r))
	}
	parsed := 0
	for seed := range 200000 {
		s := sequence(seed)
		b := []byte(bytesOf(s.request()))
		for range 1 + s.below(2) {
			i := s.below(len(b))
			switch s.below(4) {
			case 0:
				b = slices.Insert(b, i, byte(s.below(256)))
			case 1:
				b = slices.Delete(b, i, i+1)
			default:
				b[i] ^= byte(1 << s.below(8))
			}
			if len(b) == 0 {
				b = []byte{5}
			}
		}
		r, f := Parse(string(b))
		if f != api.OK {
			unparsed(t, string(b))
			continue
		}
		parsed++
		prints(t, r, string(b))
	}
	if parsed < 10000 {
		t.Error(parsed)
	}
}

// Long requests: more terms and numbers than a query may have.
func TestLongRequests(t *testing.T) {
	r := asks(Query{Terms: rising(0, 5000), V: slices.Repeat([]int{-300}, 5000), K: 1})
	prints(t, r, bytesOf(r))
	unparsed(t, strings.Repeat("\x04", 1<<20))
	unparsed(t, "\x04\x00\x00"+varintsOf(math.MaxInt)+strings.Repeat("\x01", 1<<20))
	unparsed(t, strings.Repeat("\xff", 1<<20))
}

// What is handed in isn't changed, nor kept; what is answered is new memory.
func TestBytesMemory(t *testing.T) {
	q := good(3)
	var allTerms []api.Term
	var allV []int
	q.Terms, allTerms = room(q.Terms, api.Term{Term: -5, Weight: -6})
	q.V, allV = room(q.V, -99)
	s, _ := Print(asks(q))
	c := puts(doc.Record{Doc: 1, Terms: q.Terms, V: q.V})
	u, _ := Print(c)
	if allTerms[2].Term != -5 || allTerms[3].Weight != -6 || allV[8] != -99 || allV[9] != -99 || !same(asks(q), asks(good(3))) {
		t.Error(allTerms, allV)
	}
	clear(allTerms)
	clear(allV)
	for range 2 {
		a, _ := Parse(s)
		b, _ := Parse(u)
		if !same(a, asks(good(3))) || !same(b, puts(doc.Record{Doc: 1, Terms: good(3).Terms, V: good(3).V})) {
			t.Error(a, b)
		}
		clear(a.Query.Terms)
		clear(a.Query.V)
		clear(b.Change.Terms)
		clear(b.Change.V)
	}
}
