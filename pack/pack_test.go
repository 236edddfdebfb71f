package pack

import (
	"encoding/binary"
	"math"
	"slices"
	"strings"
	"testing"
	"unsafe"

	"rankloft/api"
)

const greatest = "\xff\xff\xff\xff\xff\xff\xff\xff\x7f" // 2^63 - 1 as a varint

// sequence is a fixed row of numbers without an order that shows.
type sequence uint64

func (q *sequence) next() uint64 {
	*q = *q*6364136223846793005 + 1442695040888963407
	x := uint64(*q)
	return x ^ x>>29
}

// number answers a number of 0 to 63 bits, of small ones as often as of great
// ones.
func (q *sequence) number() int {
	return int(q.next() >> 1 >> (q.next() >> 20 % 64))
}

// fixed answers n numbers that go into w bits.
func (q *sequence) fixed(w, n int) []int {
	l := make([]int, n)
	for i := range l {
		l[i] = int(q.next()>>16) & (1<<w - 1)
	}
	return l
}

// edges are numbers from 0 on: all powers of 2 with their neighbours, and
// some between.
func edges() []int {
	l := []int{0, 127, 128, 300, math.MaxInt}
	for i := range 63 {
		l = append(l, 1<<i-1, 1<<i, 1<<i+1)
	}
	q := sequence(1)
	for range 1000 {
		l = append(l, q.number())
	}
	return l
}

func TestVarintKnown(t *testing.T) {
	for v, want := range map[int]string{
		0:           "\x00",
		1:           "\x01",
		127:         "\x7f",
		128:         "\x80\x01",
		255:         "\xff\x01",
		300:         "\xac\x02",
		1<<14 - 1:   "\xff\x7f",
		1 << 14:     "\x80\x80\x01",
		math.MaxInt: greatest,
	} {
		if s, e := Varint(v); s != want || e != api.OK {
			t.Errorf("Varint(%d) = %x, %v, want %x", v, s, e, want)
		}
	}
}

func TestVarintBelowNought(t *testing.T) {
	for _, v := range []int{-1, -2, -128, math.MinInt + 1, math.MinInt} {
		if s, e := Varint(v); s != "" || e != api.ErrRange {
			t.Errorf("Varint(%d) = %x, %v, want ErrRange", v, s, e)
		}
	}
}

func TestVarintAsTheLibrary(t *testing.T) {
	for _, v := range edges() {
		if s, e := Varint(v); s != string(binary.AppendUvarint(nil, uint64(v))) || e != api.OK {
			t.Errorf("Varint(%d) = %x, %v", v, s, e)
		}
	}
}

func TestZigzagKnown(t *testing.T) {
	for v, want := range map[int]string{
		0:               "\x00",
		-1:              "\x01",
		1:               "\x02",
		-2:              "\x03",
		63:              "\x7e",
		-64:             "\x7f",
		64:              "\x80\x01",
		-65:             "\x81\x01",
		math.MaxInt:     "\xfe\xff\xff\xff\xff\xff\xff\xff\xff\x01",
		math.MinInt + 1: "\xfd\xff\xff\xff\xff\xff\xff\xff\xff\x01",
		math.MinInt:     "\xff\xff\xff\xff\xff\xff\xff\xff\xff\x01",
	} {
		if s := Zigzag(v); s != want {
			t.Errorf("Zigzag(%d) = %x, want %x", v, s, want)
		}
	}
}

func TestZigzagAsTheLibrary(t *testing.T) {
	for _, v := range edges() {
		for _, v := range []int{v, -v, ^v} {
			if s := Zigzag(v); s != string(binary.AppendVarint(nil, int64(v))) {
				t.Errorf("Zigzag(%d) = %x", v, s)
			}
		}
	}
}

func TestRisingKnown(t *testing.T) {
	for _, x := range []struct {
		l    []int
		want string
	}{
		{nil, "\x00"},
		{[]int{}, "\x00"},
		{[]int{0}, "\x01\x00"},
		{[]int{7}, "\x01\x07"},
		{[]int{300}, "\x01\xac\x02"},
		{[]int{0, 1}, "\x02\x00\x00"},
		{[]int{0, 1, 200}, "\x03\x00\x00\xc6\x01"},
		{[]int{5, 7, 8, 18}, "\x04\x05\x01\x00\x09"},
		{[]int{math.MaxInt}, "\x01" + greatest},
		{[]int{0, math.MaxInt}, "\x02\x00\xfe\xff\xff\xff\xff\xff\xff\xff\x7f"},
		{[]int{math.MaxInt - 1, math.MaxInt}, "\x02\xfe\xff\xff\xff\xff\xff\xff\xff\x7f\x00"},
	} {
		if s, e := Rising(x.l); s != x.want || e != api.OK {
			t.Errorf("Rising(%d) = %x, %v, want %x", x.l, s, e, x.want)
		}
	}
}

func TestRisingOfNone(t *testing.T) {
	for _, l := range [][]int{
		{-1},
		{math.MinInt},
		{-1, 0, 1},
		{math.MinInt, math.MaxInt},
		{0, 0},
		{1, 1},
		{2, 1},
		{0, -1},
		{0, math.MinInt},
		{math.MaxInt, math.MaxInt},
		{math.MaxInt, math.MinInt},
		{math.MaxInt, 0},
		{0, 1, 2, 2},
		{0, 5, 4, 9},
	} {
		if s, e := Rising(l); s != "" || e != api.ErrRange {
			t.Errorf("Rising(%d) = %x, %v, want ErrRange", l, s, e)
		}
	}
}

func TestFixedKnown(t *testing.T) {
	for _, x := range []struct {
		w    int
		l    []int
		want string
	}{
		{0, nil, ""},
		{0, []int{0, 0}, ""},
		{32, nil, ""},
		{1, []int{1}, "\x01"},
		{1, []int{0, 1, 0, 0, 0, 0, 0, 1}, "\x82"},
		{1, []int{0, 0, 0, 0, 0, 0, 0, 0, 1}, "\x00\x01"},
		{3, []int{5, 2, 7}, "\xd5\x01"},
		{4, []int{1, 2, 15}, "\x21\x0f"},
		{8, []int{0, 127, 128, 255}, "\x00\x7f\x80\xff"},
		{9, []int{256, 1}, "\x00\x03\x00"},
		{16, []int{1, 0x1234}, "\x01\x00\x34\x12"},
		{31, []int{1<<31 - 1}, "\xff\xff\xff\x7f"},
		{32, []int{1<<32 - 1, 1 << 31}, "\xff\xff\xff\xff\x00\x00\x00\x80"},
	} {
		if s, e := Fixed(x.w, x.l); s != x.want || e != api.OK {
			t.Errorf("Fixed(%d, %d) = %x, %v, want %x", x.w, x.l, s, e, x.want)
		}
	}
}

// bitByBit packs as the chapter's words say it.
func bitByBit(w int, l []int) string {
	bits := ""
	for _, v := range l {
		for i := range w {
			bits += string("01"[v>>i&1])
		}
	}
	for len(bits)%8 != 0 {
		bits += "0"
	}
	b := []byte{}
	for i := 0; i < len(bits); i += 8 {
		var x byte
		for j := range 8 {
			x |= (bits[i+j] - '0') << j
		}
		b = append(b, x)
	}
	return string(b)
}

func TestFixedOfEachWidth(t *testing.T) {
	q := sequence(2)
	for w := range 33 {
		for n := range 20 {
			l := q.fixed(w, n)
			if n > 0 {
				l[n-1] = 1<<w - 1 // the greatest that goes into it
			}
			if s, e := Fixed(w, l); s != bitByBit(w, l) || e != api.OK {
				t.Errorf("Fixed(%d, %d) = %x, %v", w, l, s, e)
			}
		}
	}
}

func TestFixedOfNoWidth(t *testing.T) {
	for _, w := range []int{-1, 33, 64, math.MinInt, math.MaxInt} {
		for _, l := range [][]int{nil, {0}, {1, 2}, {-1}} {
			if s, e := Fixed(w, l); s != "" || e != api.ErrRange {
				t.Errorf("Fixed(%d, %d) = %x, %v, want ErrRange", w, l, s, e)
			}
		}
	}
}

func TestFixedTooGreat(t *testing.T) {
	for w := range 33 {
		for _, v := range []int{1 << w, 1<<w + 1, 1 << 33, 1 << 62, math.MaxInt, -1, -1 << w, math.MinInt} {
			for _, l := range [][]int{{v}, {0, v}, {v, 0}, {0, 0, v, 0}} {
				if s, e := Fixed(w, l); s != "" || e != api.ErrRange {
					t.Errorf("Fixed(%d, %d) = %x, %v, want ErrRange", w, l, s, e)
				}
			}
		}
	}
}

func TestFixedOfManyNumbers(t *testing.T) {
	// How many are written has no bound, though one call reads 2^16 at most.
	q := sequence(3)
	l := q.fixed(7, 1<<16+24)
	s, e := Fixed(7, l)
	if len(s) != 7*(1<<16+24)/8 || e != api.OK {
		t.Fatalf("%d bytes, %v", len(s), e)
	}
	r := New(s)
	got := append(r.Fixed(7, 1<<16), r.Fixed(7, 24)...)
	if !slices.Equal(got, l) || r.Bad() || r.Left() != 0 {
		t.Errorf("%d numbers, %v, %d left", len(got), r.Bad(), r.Left())
	}
}

func TestRowsStayAsTheyAre(t *testing.T) {
	room := []int{1, 2, 3, -4, -5}
	Rising(room[:3])
	Fixed(2, room[:3])
	Rising(room)
	Fixed(2, room)
	if !slices.Equal(room, []int{1, 2, 3, -4, -5}) {
		t.Errorf("the row became %d", room)
	}
}

// good checks that a reader is good and has so many bytes left.
func good(t *testing.T, r *Reader, left int) {
	t.Helper()
	if r.Bad() || r.Left() != left {
		t.Fatalf("bad %v, %d left, want %d", r.Bad(), r.Left(), left)
	}
}

// tails are what lies behind the thing that is read.
var tails = []string{"", "\x00", "\x80", "\xff\xff", "more bytes behind"}

func TestVarintIsRead(t *testing.T) {
	for _, v := range edges() {
		for _, tail := range tails {
			s, _ := Varint(v)
			r := New(s + tail)
			if got := r.Varint(); got != v {
				t.Fatalf("%d was written, %d read", v, got)
			}
			good(t, r, len(tail))
		}
	}
}

func TestZigzagIsRead(t *testing.T) {
	for _, v := range append(edges(), math.MinInt) {
		for _, v := range []int{v, -v, ^v} {
			for _, tail := range tails {
				r := New(Zigzag(v) + tail)
				if got := r.Zigzag(); got != v {
					t.Fatalf("%d was written, %d read", v, got)
				}
				good(t, r, len(tail))
			}
		}
	}
}

// rows are rising rows.
func rows() [][]int {
	l := [][]int{nil, {0}, {300}, {0, 1, 200}, {math.MaxInt}, {0, math.MaxInt}, {math.MaxInt - 2, math.MaxInt - 1, math.MaxInt}}
	q := sequence(4)
	for n := range 200 {
		row := make([]int, n)
		for i := range row {
			row[i] = q.number()
		}
		slices.Sort(row)
		l = append(l, slices.Compact(row))
	}
	all := edges()
	slices.Sort(all)
	return append(l, slices.Compact(all))
}

func TestRisingIsRead(t *testing.T) {
	for _, l := range rows() {
		s, e := Rising(l)
		if e != api.OK {
			t.Fatalf("Rising(%d): %v", l, e)
		}
		for _, tail := range tails {
			for _, most := range []int{len(l), len(l) + 1, math.MaxInt} {
				r := New(s + tail)
				if got := r.Rising(most); !slices.Equal(got, l) {
					t.Fatalf("%d was written, %d read", l, got)
				}
				good(t, r, len(tail))
			}
		}
	}
}

func TestFixedIsRead(t *testing.T) {
	q := sequence(5)
	for w := range 33 {
		for n := range 20 {
			l := q.fixed(w, n)
			s, _ := Fixed(w, l)
			for _, tail := range tails {
				r := New(s + tail)
				if got := r.Fixed(w, n); !slices.Equal(got, l) {
					t.Fatalf("of %d bits %d was written, %d read", w, l, got)
				}
				good(t, r, len(tail))
			}
		}
	}
}

func TestFixedReadsUpToItsBound(t *testing.T) {
	q := sequence(6)
	for _, w := range []int{0, 1, 31, 32} {
		l := q.fixed(w, 1<<16)
		s, _ := Fixed(w, l)
		r := New(s + "x")
		if got := r.Fixed(w, 1<<16); !slices.Equal(got, l) {
			t.Errorf("of %d bits: %d numbers", w, len(got))
		}
		good(t, r, 1)
	}
}

func TestBytesAreRead(t *testing.T) {
	r := New("abcdef")
	for _, x := range []struct {
		n    int
		want string
		left int
	}{{0, "", 6}, {1, "a", 5}, {3, "bcd", 2}, {0, "", 2}, {2, "ef", 0}, {0, "", 0}} {
		if got := r.Bytes(x.n); got != x.want {
			t.Errorf("Bytes(%d) = %q, want %q", x.n, got, x.want)
		}
		good(t, r, x.left)
	}
	long := strings.Repeat("x", 1<<17)
	r = New(long + "y")
	if r.Bytes(1<<17) != long {
		t.Error("a long text is another")
	}
	good(t, r, 1)
}

func TestAllKindsBehindEachOther(t *testing.T) {
	v, _ := Varint(300)
	l, _ := Rising([]int{3, 4, 1000})
	f, _ := Fixed(5, []int{31, 0, 17})
	r := New(v + Zigzag(-300) + l + f + "abc" + Zigzag(math.MinInt) + f + v)
	if got := r.Varint(); got != 300 {
		t.Error(got)
	}
	if got := r.Zigzag(); got != -300 {
		t.Error(got)
	}
	if got := r.Rising(3); !slices.Equal(got, []int{3, 4, 1000}) {
		t.Error(got)
	}
	if got := r.Fixed(5, 3); !slices.Equal(got, []int{31, 0, 17}) {
		t.Error(got)
	}
	if got := r.Bytes(3); got != "abc" {
		t.Error(got)
	}
	if got := r.Zigzag(); got != math.MinInt {
		t.Error(got)
	}
	if got := r.Fixed(5, 3); !slices.Equal(got, []int{31, 0, 17}) {
		t.Error(got)
	}
	if got := r.Varint(); got != 300 {
		t.Error(got)
	}
	good(t, r, 0)
}

func TestReaderAtItsFront(t *testing.T) {
	for _, n := range []int{0, 1, 2, 1000} {
		good(t, New(strings.Repeat("\xff", n)), n)
	}
}

// isBad checks that a reader is bad, has nothing left, and answers nothing,
// whatever it is asked, however often.
func isBad(t *testing.T, r *Reader) {
	t.Helper()
	for range 2 {
		for i, nothing := range []func() bool{
			func() bool { return r.Varint() == 0 },
			func() bool { return r.Zigzag() == 0 },
			func() bool { return len(r.Rising(0)) == 0 },
			func() bool { return len(r.Rising(math.MaxInt)) == 0 },
			func() bool { return len(r.Rising(-1)) == 0 },
			func() bool { return len(r.Fixed(0, 0)) == 0 },
			func() bool { return len(r.Fixed(0, 3)) == 0 },
			func() bool { return len(r.Fixed(8, 1)) == 0 },
			func() bool { return len(r.Fixed(-1, -1)) == 0 },
			func() bool { return r.Bytes(0) == "" },
			func() bool { return r.Bytes(1) == "" },
			func() bool { return r.Bytes(-1) == "" },
		} {
			if !r.Bad() || r.Left() != 0 {
				t.Fatalf("ahead of call %d: bad %v, %d left", i, r.Bad(), r.Left())
			}
			if !nothing() {
				t.Fatalf("a bad reader answers call %d", i)
			}
		}
		if !r.Bad() || r.Left() != 0 {
			t.Fatalf("behind all calls: bad %v, %d left", r.Bad(), r.Left())
		}
	}
}

// cuts are all that is left of s when its end is cut off.
func cuts(s string) []string {
	l := []string{}
	for n := range len(s) {
		l = append(l, s[:n])
	}
	return l
}

// wrongNumbers are no varints, whatever the bound.
func wrongNumbers() []string {
	l := []string{
		"\x80\x00", "\xff\x00", "\x80\x80\x00", "\xac\x82\x00", // a byte too many
		"\xff\xff\xff\xff\xff\xff\xff\xff\xff\x00", "\xff\xff\xff\xff\xff\xff\xff\xff\xff\x81\x00",
		"\x80\x80\x80\x80\x80\x80\x80\x80\x80\x80\x00",
		"\x80\x80\x80\x80\x80\x80\x80\x80\x80\x02", // 2^64
		"\xff\xff\xff\xff\xff\xff\xff\xff\xff\x02",
		"\xff\xff\xff\xff\xff\xff\xff\xff\xff\x7f",
		"\x80\x80\x80\x80\x80\x80\x80\x80\x80\x80\x01", // eleven bytes
		strings.Repeat("\xff", 10) + "\x01",
		strings.Repeat("\x80", 1000) + "\x01",
		strings.Repeat("\x80", 1000),
	}
	for _, s := range []string{"\x00", "\xac\x02", "\xff\xff\xff\xff\xff\xff\xff\xff\xff\x01"} {
		l = append(l, cuts(s)...)
	}
	return l
}

func TestNoVarint(t *testing.T) {
	wrong := append(wrongNumbers(),
		"\x80\x80\x80\x80\x80\x80\x80\x80\x80\x01", // 2^63
		"\xff\xff\xff\xff\xff\xff\xff\xff\xff\x01",
		"\xfe\xff\xff\xff\xff\xff\xff\xff\xff\x01")
	for _, s := range wrong {
		// Bytes behind what is cut would go on with it.
		for _, tail := range []string{"", "\x80"} {
			r := New(s + tail)
			if got := r.Varint(); got != 0 {
				t.Errorf("%x: %d", s+tail, got)
			}
			isBad(t, r)
		}
	}
}

func TestNoZigzag(t *testing.T) {
	for _, s := range wrongNumbers() {
		for _, tail := range []string{"", "\x80"} {
			r := New(s + tail)
			if got := r.Zigzag(); got != 0 {
				t.Errorf("%x: %d", s+tail, got)
			}
			isBad(t, r)
		}
	}
}

func TestNoRisingRow(t *testing.T) {
	wrong := []string{
		"\x02" + greatest + "\x00", // the number behind the greatest one
		"\x02" + greatest + greatest,
		"\x02\x01\xfe\xff\xff\xff\xff\xff\xff\xff\x7f",
		"\x02\x00" + greatest,
		"\x03\x00\xfe\xff\xff\xff\xff\xff\xff\xff\x7f\x00",
		"\x80\x00",         // how many, with a byte too many
		"\x01\x80\x00",     // a number with a byte too many
		"\x02\x00\x81\x00", // a difference with a byte too many
		"\x01\x80\x80\x80\x80\x80\x80\x80\x80\x80\x01",             // a number above its bound
		"\x80\x80\x80\x80\x80\x80\x80\x80\x80\x01\x00\x00\x00\x00", // how many above its bound
		greatest,
		greatest + "\x00\x00\x00",
		"\xff\xff\xff\xff\x07\x00\x00",
	}
	wrong = append(wrong, cuts("\x03\x00\x00\xc6\x01")...)
	for _, s := range wrong {
		for _, most := range []int{4, 1 << 31, math.MaxInt} {
			r := New(s)
			if got := r.Rising(most); len(got) != 0 {
				t.Errorf("%x: %d", s, got)
			}
			isBad(t, r)
		}
	}
}

func TestRisingOfMoreThanMost(t *testing.T) {
	for _, l := range rows() {
		s, _ := Rising(l)
		for _, most := range []int{len(l) - 1, -1, math.MinInt} {
			r := New(s + "more")
			if got := r.Rising(most); len(got) != 0 {
				t.Errorf("%d of at most %d", got, most)
			}
			isBad(t, r)
		}
	}
}

func TestFixedOutOfItsRange(t *testing.T) {
	for _, s := range []string{"", strings.Repeat("\x00", 400000)} {
		for _, x := range [][2]int{
			{-1, 0}, {-1, 1}, {33, 0}, {33, 1}, {64, 1}, {math.MinInt, 0}, {math.MaxInt, 0}, {math.MaxInt, 1},
			{0, -1}, {1, -1}, {32, -1}, {0, 1<<16 + 1}, {1, 1<<16 + 1}, {32, 1<<16 + 1},
			{0, math.MaxInt}, {0, math.MinInt}, {32, math.MaxInt}, {32, math.MinInt}, {2, 1 << 62}, {32, 1 << 59},
			{math.MaxInt, math.MaxInt}, {math.MinInt, math.MinInt}, {-8, -8},
		} {
			r := New(s)
			if got := r.Fixed(x[0], x[1]); len(got) != 0 {
				t.Errorf("Fixed(%d, %d): %d numbers", x[0], x[1], len(got))
			}
			isBad(t, r)
		}
	}
}

func TestFixedWithoutItsBytes(t *testing.T) {
	for w := 1; w <= 32; w++ {
		for n := 1; n < 20; n++ {
			for _, s := range cuts(strings.Repeat("\x00", (w*n+7)/8)) {
				r := New(s)
				if got := r.Fixed(w, n); len(got) != 0 {
					t.Fatalf("%d of %d bits of %d bytes: %d", n, w, len(s), got)
				}
				isBad(t, r)
			}
		}
	}
}

func TestFixedWithABitTooMany(t *testing.T) {
	for w := 1; w <= 32; w++ {
		for n := 1; n < 20; n++ {
			size := (w*n + 7) / 8
			for bit := w * n; bit < size*8; bit++ {
				b := make([]byte, size, size+4)
				b[size-1] = 1 << (bit % 8)
				r := New(string(append(b, "more"...)))
				if got := r.Fixed(w, n); len(got) != 0 {
					t.Fatalf("%d of %d bits with bit %d: %d", n, w, bit, got)
				}
				isBad(t, r)
			}
		}
	}
}

func TestBytesThatAreNotThere(t *testing.T) {
	for _, n := range []int{4, 5, 1 << 16, math.MaxInt, -1, -3, math.MinInt} {
		r := New("abc")
		if got := r.Bytes(n); got != "" {
			t.Errorf("Bytes(%d) = %q", n, got)
		}
		isBad(t, r)
	}
}

func TestBadBehindGoodOnes(t *testing.T) {
	r := New("\x05\x06\x80\x00abc")
	if r.Varint() != 5 || r.Zigzag() != 3 {
		t.Error("what is ahead of the fault isn't read")
	}
	good(t, r, 5)
	if got := r.Varint(); got != 0 {
		t.Error(got)
	}
	isBad(t, r)
}

// readBack reads a text as each kind there is and checks, where that goes,
// that what was read is written as just the bytes that were taken.
func readBack(t *testing.T, s string) {
	t.Helper()
	for w := range 10 {
		for n := range 4 {
			r := New(s)
			l := r.Fixed(w, n)
			back, e := Fixed(w, l)
			wasTaken(t, s, r, back, e)
		}
	}
	r := New(s)
	back, e := Varint(r.Varint())
	wasTaken(t, s, r, back, e)
	r = New(s)
	wasTaken(t, s, r, Zigzag(r.Zigzag()), api.OK)
	r = New(s)
	back, e = Rising(r.Rising(math.MaxInt))
	wasTaken(t, s, r, back, e)
}

func wasTaken(t *testing.T, s string, r *Reader, back string, e api.Errno) {
	t.Helper()
	if r.Bad() {
		if r.Left() != 0 {
			t.Fatalf("%x: bad, with %d left", s, r.Left())
		}
		return
	}
	if e != api.OK || back != s[:len(s)-r.Left()] {
		t.Fatalf("%x: %d left, written again as %x, %v", s, r.Left(), back, e)
	}
}

func TestWhatIsReadWasWrittenSo(t *testing.T) {
	readBack(t, "")
	for i := range 1 << 16 {
		readBack(t, string([]byte{byte(i), byte(i >> 8)}))
	}
	q := sequence(7)
	// Few values, among them those that lie at an edge, meet the edges often.
	kinds := []byte{0, 1, 2, 3, 0x7f, 0x80, 0x81, 0xfe, 0xff, 0xff, 0xff, 0xff}
	for range 50000 {
		b := make([]byte, q.next()>>16%24)
		for i := range b {
			b[i] = kinds[q.next()>>16%uint64(len(kinds))]
		}
		readBack(t, string(b))
	}
}

func TestReadersAreApart(t *testing.T) {
	a, b := New("\x01\x02"), New("\x01\x02")
	a.Bytes(3)
	if b.Varint() != 1 {
		t.Error("a reader was moved by another")
	}
	good(t, b, 1)
	isBad(t, a)
}

func TestAnswersAreNewMemory(t *testing.T) {
	s := strings.Repeat("some bytes", 2)
	got := New(s).Bytes(len(s))
	if unsafe.StringData(got) == unsafe.StringData(s) {
		t.Error("what was read shares its memory with the argument")
	}
	r := New("\x02\x00\x00\x02\x00\x00")
	a, b := r.Rising(2), r.Rising(2)
	a = append(a[:1], 9)
	if !slices.Equal(b, []int{0, 1}) {
		t.Errorf("two rows share their memory: %d, %d", a, b)
	}
}
