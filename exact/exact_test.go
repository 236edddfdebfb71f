package exact

import (
	"math"
	"math/big"
	"testing"

	"rankloft/api"
)

const (
	most  = math.MaxInt64
	least = math.MinInt64
	word  = math.MaxUint64
)

// sequence is a fixed row of numbers without an order that shows.
type sequence uint64

func (q *sequence) next() uint64 {
	*q = *q*6364136223846793005 + 1442695040888963407
	x := uint64(*q)
	return x ^ x>>29
}

// number answers a number of either sign, of small ones as often as of great
// ones.
func (q *sequence) number() int64 {
	return int64(q.next()) >> (q.next() >> 20 % 64)
}

// above answers a number above 0.
func (q *sequence) above() int64 {
	return q.number()&most | 1<<(q.next()>>20%63)
}

// ratio answers a right rational.
func (q *sequence) ratio() api.Ratio {
	return right(q.number(), q.above())
}

// edges are all powers of 2 with their neighbours, of either sign, and some
// numbers between.
func edges() []int64 {
	l := []int64{0, 1, -1, most, most - 1, least, least + 1, 3037000499, 3037000500}
	for i := range 63 {
		p := int64(1) << i
		l = append(l, p-1, p, p+1, -p-1, -p, -p+1)
	}
	q := sequence(1)
	for range 200 {
		l = append(l, q.number())
	}
	return l
}

// great answers what the library says of num / den.
func great(r api.Ratio) *big.Rat { return big.NewRat(r.Num, r.Den) }

// right answers the right rational num / den, as the library says it.
func right(num, den int64) api.Ratio {
	r := big.NewRat(num, den)
	return api.Ratio{Num: r.Num().Int64(), Den: r.Denom().Int64()}
}

// small answers a rational of the library's with its errno: ErrRange, if one
// of its numbers is no int64.
func small(r *big.Rat) (api.Ratio, api.Errno) {
	if !r.Num().IsInt64() || !r.Denom().IsInt64() {
		return api.Ratio{}, api.ErrRange
	}
	return api.Ratio{Num: r.Num().Int64(), Den: r.Denom().Int64()}, api.OK
}

// wrong are rationals that aren't right.
func wrong() []api.Ratio {
	return []api.Ratio{
		{}, {Num: 1}, {Num: -1}, {Num: most}, {Num: least},
		{Num: 1, Den: -1}, {Num: -1, Den: -1}, {Num: 0, Den: -1}, {Num: 1, Den: -2},
		{Num: 1, Den: least}, {Num: least, Den: least}, {Num: 3, Den: -most}, {Num: 0, Den: least},
		{Num: 2, Den: 4}, {Num: -2, Den: 4}, {Num: 6, Den: 9}, {Num: 2, Den: 2}, {Num: -3, Den: 3},
		{Num: most, Den: most}, {Num: least, Den: 2}, {Num: least, Den: 1 << 62}, {Num: 7, Den: most}, {Num: -7, Den: most},
		{Num: 0, Den: 2}, {Num: 0, Den: 3}, {Num: 0, Den: most},
	}
}

// rights are right rationals of all sizes and either sign, with such as lie
// close to one another.
func rights() []api.Ratio {
	l := []api.Ratio{
		{Num: 0, Den: 1}, {Num: 1, Den: 1}, {Num: -1, Den: 1}, {Num: 1, Den: 2}, {Num: -1, Den: 2}, {Num: 1, Den: 3}, {Num: -1, Den: 3}, {Num: 2, Den: 3},
		{Num: most, Den: 1}, {Num: most - 1, Den: 1}, {Num: least, Den: 1}, {Num: least + 1, Den: 1}, {Num: 1 << 62, Den: 1}, {Num: -1 << 62, Den: 1},
		{Num: 1, Den: most}, {Num: -1, Den: most}, {Num: 1, Den: most - 1}, {Num: -1, Den: most - 1}, {Num: 1, Den: 1 << 62}, {Num: -1, Den: 1 << 62},
		{Num: most, Den: most - 1}, {Num: most - 1, Den: most}, {Num: most - 1, Den: most - 2}, {Num: most - 2, Den: most - 1},
		{Num: -most, Den: most - 1}, {Num: 1 - most, Den: most}, {Num: 1 - most, Den: most - 2}, {Num: 2 - most, Den: most - 1},
		{Num: least, Den: most}, {Num: least, Den: most - 2}, {Num: least, Den: 3}, {Num: most, Den: 2}, {Num: least + 1, Den: 2}, {Num: most, Den: 1 << 62}, {Num: least + 1, Den: 1 << 62},
		{Num: 1<<32 + 1, Den: 1 << 32}, {Num: 1 << 32, Den: 1<<32 - 1}, {Num: 1<<32 - 1, Den: 1 << 32}, {Num: -1<<32 - 1, Den: 1 << 32},
		{Num: 1, Den: 27}, {Num: 1, Den: 49}, {Num: 1, Den: most / 49}, {Num: -1, Den: most / 49},
	}
	q := sequence(2)
	for range 60 {
		l = append(l, q.ratio())
	}
	return l
}

func TestAddKnown(t *testing.T) {
	for _, x := range []struct {
		a, b, want int64
		ok         bool
	}{
		{1, 2, 3, true}, {-1, 2, 1, true}, {1, -2, -1, true}, {-1, -2, -3, true}, {0, 0, 0, true},
		{most, 0, most, true}, {0, most, most, true}, {least, 0, least, true}, {0, least, least, true},
		{most - 1, 1, most, true}, {1, most - 1, most, true}, {least + 1, -1, least, true}, {-1, least + 1, least, true},
		{most, 1, 0, false}, {1, most, 0, false}, {least, -1, 0, false}, {-1, least, 0, false},
		{1 << 62, 1 << 62, 0, false}, {1 << 62, 1<<62 - 1, most, true}, {-1 << 62, -1 << 62, least, true}, {-1 << 62, -1<<62 - 1, 0, false},
		{most, most, 0, false}, {least, least, 0, false}, {most, least, -1, true}, {least, most, -1, true}, {most, -most, 0, true},
	} {
		if s, ok := Add(x.a, x.b); s != x.want || ok != x.ok {
			t.Errorf("Add(%d, %d) = %d, %v", x.a, x.b, s, ok)
		}
	}
}

func TestMulKnown(t *testing.T) {
	for _, x := range []struct {
		a, b, want int64
		ok         bool
	}{
		{2, 3, 6, true}, {-2, 3, -6, true}, {2, -3, -6, true}, {-2, -3, 6, true},
		{0, 0, 0, true}, {0, 5, 0, true}, {-5, 0, 0, true}, {0, most, 0, true}, {most, 0, 0, true}, {0, least, 0, true}, {least, 0, 0, true},
		{most, 1, most, true}, {1, most, most, true}, {most, -1, least + 1, true}, {least, 1, least, true}, {1, least, least, true},
		{least, -1, 0, false}, {-1, least, 0, false}, {least + 1, -1, most, true},
		{1 << 32, 1 << 31, 0, false}, {1 << 32, 1<<31 - 1, 1<<63 - 1<<32, true}, {-1 << 32, 1 << 31, least, true}, {1 << 31, -1 << 32, least, true}, {-1 << 32, -1 << 31, 0, false},
		{49, most / 49, most, true}, {-49, most / 49, -most, true}, // 49 divides the greatest number
		{27, 341606371735362067, 0, false}, {-27, 341606371735362067, 0, false}, // 2^63 + 1: a step beyond the least one
		{2, 1 << 62, 0, false}, {2, -1 << 62, least, true}, {most, 2, 0, false}, {least, 2, 0, false},
		{1 << 32, 1 << 32, 0, false}, {1 << 33, 1 << 32, 0, false}, {1<<32 + 1, 1 << 32, 0, false}, // their low words alone would do
		{most, most, 0, false}, {least, least, 0, false}, {most, least, 0, false},
	} {
		if p, ok := Mul(x.a, x.b); p != x.want || ok != x.ok {
			t.Errorf("Mul(%d, %d) = %d, %v", x.a, x.b, p, ok)
		}
	}
}

func TestAddAndMulAsTheLibrary(t *testing.T) {
	check := func(name string, a, b int64, f func(int64, int64) (int64, bool), want *big.Int) {
		v := int64(0)
		if want.IsInt64() {
			v = want.Int64()
		}
		if got, ok := f(a, b); got != v || ok != want.IsInt64() {
			t.Fatalf("%s(%d, %d) = %d, %v, by the library %v", name, a, b, got, ok, want)
		}
	}
	l := edges()
	for _, a := range l {
		for _, b := range l {
			x, y := big.NewInt(a), big.NewInt(b)
			check("Add", a, b, Add, new(big.Int).Add(x, y))
			check("Mul", a, b, Mul, new(big.Int).Mul(x, y))
		}
	}
}

func TestWideKnown(t *testing.T) {
	for _, x := range []struct{ a, b, high, low uint64 }{
		{0, 0, 0, 0}, {0, word, 0, 0}, {word, 0, 0, 0}, {1, 1, 0, 1}, {1, word, 0, word}, {word, 1, 0, word},
		{1 << 32, 1 << 32, 1, 0}, {1 << 63, 2, 1, 0}, {2, 1 << 63, 1, 0}, {1<<32 - 1, 1<<32 + 1, 0, word}, {1 << 32, 1<<32 + 1, 1, 1 << 32},
		{word, 2, 1, word - 1}, {word, word, word - 1, 1}, {1 << 63, 1 << 63, 1 << 62, 0}, {word, 1 << 63, 1<<63 - 1, 1 << 63},
	} {
		if h, l := Wide(x.a, x.b); h != x.high || l != x.low {
			t.Errorf("Wide(%d, %d) = %d, %d", x.a, x.b, h, l)
		}
	}
}

func TestWideAsTheLibrary(t *testing.T) {
	q := sequence(3)
	for range 20000 {
		a, b := q.next()>>(q.next()>>20%64), q.next()>>(q.next()>>20%64)
		want := new(big.Int).Mul(new(big.Int).SetUint64(a), new(big.Int).SetUint64(b))
		h, l := Wide(a, b)
		got := new(big.Int).Lsh(new(big.Int).SetUint64(h), 64)
		if got.Add(got, new(big.Int).SetUint64(l)).Cmp(want) != 0 {
			t.Fatalf("Wide(%d, %d) = %d, %d", a, b, h, l)
		}
	}
}

func TestRatioKnown(t *testing.T) {
	for _, x := range []struct {
		num, den int64
		want     api.Ratio
	}{
		{1, 2, api.Ratio{Num: 1, Den: 2}}, {3, 1, api.Ratio{Num: 3, Den: 1}}, {-4, 6, api.Ratio{Num: -2, Den: 3}}, {6, 4, api.Ratio{Num: 3, Den: 2}}, {5, 5, api.Ratio{Num: 1, Den: 1}}, {-5, 5, api.Ratio{Num: -1, Den: 1}},
		{0, 1, api.Ratio{Den: 1}}, {0, 9, api.Ratio{Den: 1}}, {0, most, api.Ratio{Den: 1}},
		{least, 1, api.Ratio{Num: least, Den: 1}}, {least, 3, api.Ratio{Num: least, Den: 3}}, {least, 2, api.Ratio{Num: -1 << 62, Den: 1}}, {least, 6, api.Ratio{Num: -1 << 62, Den: 3}}, {least, 1 << 62, api.Ratio{Num: -2, Den: 1}}, {least, most, api.Ratio{Num: least, Den: most}},
		{most, 1, api.Ratio{Num: most, Den: 1}}, {most, 2, api.Ratio{Num: most, Den: 2}}, {most, 49, api.Ratio{Num: most / 49, Den: 1}}, {most, most, api.Ratio{Num: 1, Den: 1}}, {-most, most, api.Ratio{Num: -1, Den: 1}}, {most - 1, most, api.Ratio{Num: most - 1, Den: most}},
		{1, most, api.Ratio{Num: 1, Den: most}}, {49, most, api.Ratio{Num: 1, Den: most / 49}},
	} {
		if r, e := Ratio(x.num, x.den); r != x.want || e != api.OK {
			t.Errorf("Ratio(%d, %d) = %v, %v", x.num, x.den, r, e)
		}
	}
}

func TestRatioOverNoughtOrLess(t *testing.T) {
	for _, num := range []int64{0, 1, -1, 6, most, least} {
		for _, den := range []int64{0, -1, -2, -3, -most, least} {
			if r, e := Ratio(num, den); r != (api.Ratio{}) || e != api.ErrRange {
				t.Errorf("Ratio(%d, %d) = %v, %v", num, den, r, e)
			}
		}
	}
}

func TestRatioAsTheLibrary(t *testing.T) {
	l := edges()
	for _, num := range l {
		for _, den := range l {
			if den <= 0 {
				continue
			}
			r, e := Ratio(num, den)
			if r != right(num, den) || e != api.OK {
				t.Fatalf("Ratio(%d, %d) = %v, %v", num, den, r, e)
			}
			if !Right(r) {
				t.Fatalf("%v isn't right", r)
			}
		}
	}
}

func TestRight(t *testing.T) {
	for _, r := range rights() {
		if !Right(r) {
			t.Errorf("%v isn't right", r)
		}
	}
	for _, r := range wrong() {
		if Right(r) {
			t.Errorf("%v is right", r)
		}
	}
}

func TestRightAsTheLibrary(t *testing.T) {
	l := edges()
	for _, num := range l {
		for _, den := range l {
			r := api.Ratio{Num: num, Den: den}
			want := den > 0 && right(num, den) == r
			if Right(r) != want {
				t.Fatalf("Right(%v) = %v", r, !want)
			}
		}
	}
}

func TestSumKnown(t *testing.T) {
	for _, x := range []struct {
		a, b, want api.Ratio
	}{
		{api.Ratio{Num: 1, Den: 2}, api.Ratio{Num: 1, Den: 3}, api.Ratio{Num: 5, Den: 6}},
		{api.Ratio{Num: 1, Den: 2}, api.Ratio{Num: 1, Den: 2}, api.Ratio{Num: 1, Den: 1}},
		{api.Ratio{Num: 1, Den: 6}, api.Ratio{Num: 1, Den: 3}, api.Ratio{Num: 1, Den: 2}},
		{api.Ratio{Num: 1, Den: 6}, api.Ratio{Num: 1, Den: 10}, api.Ratio{Num: 4, Den: 15}},
		{api.Ratio{Num: -1, Den: 4}, api.Ratio{Num: 1, Den: 3}, api.Ratio{Num: 1, Den: 12}},
		{api.Ratio{Num: 1, Den: 4}, api.Ratio{Num: -1, Den: 3}, api.Ratio{Num: -1, Den: 12}},
		{api.Ratio{Num: -1, Den: 4}, api.Ratio{Num: -1, Den: 3}, api.Ratio{Num: -7, Den: 12}},
		{api.Ratio{Num: 0, Den: 1}, api.Ratio{Num: 0, Den: 1}, api.Ratio{Num: 0, Den: 1}},
		{api.Ratio{Num: 0, Den: 1}, api.Ratio{Num: least, Den: 3}, api.Ratio{Num: least, Den: 3}},
		{api.Ratio{Num: 0, Den: 1}, api.Ratio{Num: most, Den: 1 << 62}, api.Ratio{Num: most, Den: 1 << 62}},
		{api.Ratio{Num: 7, Den: most / 49}, api.Ratio{Num: -7, Den: most / 49}, api.Ratio{Num: 0, Den: 1}},
		{api.Ratio{Num: -1, Den: most}, api.Ratio{Num: 1, Den: most}, api.Ratio{Num: 0, Den: 1}},
		{api.Ratio{Num: most - 1, Den: 1}, api.Ratio{Num: 1, Den: 1}, api.Ratio{Num: most, Den: 1}},
		{api.Ratio{Num: least + 1, Den: 1}, api.Ratio{Num: -1, Den: 1}, api.Ratio{Num: least, Den: 1}},
		{api.Ratio{Num: most, Den: 1}, api.Ratio{Num: least, Den: 1}, api.Ratio{Num: -1, Den: 1}},
		{api.Ratio{Num: 1, Den: 49}, api.Ratio{Num: 1, Den: most / 49}, api.Ratio{Num: most/49 + 49, Den: most}},
	} {
		for _, p := range [][2]api.Ratio{{x.a, x.b}, {x.b, x.a}} {
			if s, e := Sum(p[0], p[1]); s != x.want || e != api.OK {
				t.Errorf("Sum(%v, %v) = %v, %v, want %v", p[0], p[1], s, e, x.want)
			}
		}
	}
}

func TestSumThroughGreatProducts(t *testing.T) {
	for _, x := range []struct {
		a, b, want api.Ratio
	}{
		// By the plain products over the product of the denominators.
		{api.Ratio{Num: most, Den: 2}, api.Ratio{Num: -1 << 62, Den: 1}, api.Ratio{Num: -1, Den: 2}},
		{api.Ratio{Num: most, Den: 1 << 62}, api.Ratio{Num: 2 - most, Den: 1 << 62}, api.Ratio{Num: 1, Den: 1 << 61}},
		{api.Ratio{Num: most, Den: 1 << 62}, api.Ratio{Num: 1, Den: 1 << 62}, api.Ratio{Num: 2, Den: 1}},
		{api.Ratio{Num: most, Den: 2}, api.Ratio{Num: most, Den: 2}, api.Ratio{Num: most, Den: 1}},
		{api.Ratio{Num: least + 1, Den: 2}, api.Ratio{Num: least + 1, Den: 2}, api.Ratio{Num: least + 1, Den: 1}},
		{api.Ratio{Num: most, Den: 4}, api.Ratio{Num: 1, Den: 4}, api.Ratio{Num: 1 << 61, Den: 1}},
		{api.Ratio{Num: least + 1, Den: 1 << 31}, api.Ratio{Num: -1, Den: 1 << 31}, api.Ratio{Num: -1 << 32, Den: 1}},
		{api.Ratio{Num: most, Den: most - 1}, api.Ratio{Num: -1, Den: 1}, api.Ratio{Num: 1, Den: most - 1}},
		{api.Ratio{Num: least, Den: most}, api.Ratio{Num: 1, Den: 1}, api.Ratio{Num: -1, Den: most}},
	} {
		for _, p := range [][2]api.Ratio{{x.a, x.b}, {x.b, x.a}} {
			if s, e := Sum(p[0], p[1]); s != x.want || e != api.OK {
				t.Errorf("Sum(%v, %v) = %v, %v, want %v", p[0], p[1], s, e, x.want)
			}
		}
	}
}

// The denominators g p and g q, with a top that g divides: the top goes far
// beyond one word, and what is left of it by g may be an int64.
func TestSumWhoseTopHasTwoWords(t *testing.T) {
	const g, p, q = 1 << 31, 1<<31 - 1, 1<<31 + 1
	inverse := new(big.Int).ModInverse(big.NewInt(p), big.NewInt(g)).Int64()
	beyond, inside := 0, 0
	row := sequence(4)
	for range 4000 {
		n := int64(row.next()) | 1
		// n q + m p is then a multiple of g.
		m := (g - n%g*(q%g)%g*inverse%g) % g
		m += int64(row.next()) &^ (g - 1)
		a, b := api.Ratio{Num: n, Den: g * p}, api.Ratio{Num: m, Den: g * q}
		if !Right(a) || !Right(b) {
			continue
		}
		top := new(big.Int).Mul(big.NewInt(n), big.NewInt(q))
		top.Add(top, new(big.Int).Mul(big.NewInt(m), big.NewInt(p)))
		want, e := small(new(big.Rat).Add(great(a), great(b)))
		if got, err := Sum(a, b); got != want || err != e {
			t.Fatalf("Sum(%v, %v) = %v, %v, by the library %v, %v", a, b, got, err, want, e)
		}
		if top.BitLen() > 64 && e == api.OK {
			inside++
		}
		if e != api.OK {
			beyond++
		}
	}
	if inside < 100 || beyond < 100 {
		t.Errorf("of the sums with a great top %d are in the range and %d aren't", inside, beyond)
	}
}

func TestSumOutOfTheRange(t *testing.T) {
	for _, p := range [][2]api.Ratio{
		// The numerator.
		{{Num: most, Den: 1}, {Num: 1, Den: 1}},
		{{Num: least, Den: 1}, {Num: -1, Den: 1}},
		{{Num: most, Den: 1}, {Num: most, Den: 1}},
		{{Num: least, Den: 1}, {Num: least, Den: 1}},
		{{Num: 1 << 62, Den: 1}, {Num: 1 << 62, Den: 1}},
		{{Num: most, Den: 1}, {Num: 1, Den: 2}},
		{{Num: least, Den: 1}, {Num: 1, Den: 3}},
		{{Num: least, Den: 3}, {Num: least, Den: 3}},
		{{Num: most, Den: 1}, {Num: 1, Den: most}},
		{{Num: least, Den: 1}, {Num: 1, Den: most}},
		{{Num: most, Den: 3}, {Num: least, Den: 5}},
		// The denominator.
		{{Num: 1, Den: 1 << 62}, {Num: 1, Den: 3}},
		{{Num: 1, Den: 1 << 32}, {Num: -1, Den: 1<<31 + 1}},
		{{Num: 1, Den: 27}, {Num: 1, Den: 341606371735362067}}, // 2^63 + 1
		{{Num: 1, Den: 1 << 32}, {Num: 1, Den: 1<<32 + 1}},     // its low word alone would do
		{{Num: 1, Den: most}, {Num: 1, Den: most - 1}},
		{{Num: 1, Den: most}, {Num: -1, Den: most - 1}},
		// Both.
		{{Num: most, Den: most - 1}, {Num: most - 1, Den: most}},
		{{Num: least, Den: most}, {Num: least, Den: most - 2}},
	} {
		for _, x := range [][2]api.Ratio{p, {p[1], p[0]}} {
			if !Right(x[0]) || !Right(x[1]) {
				t.Fatalf("%v: not right", x)
			}
			if s, e := Sum(x[0], x[1]); s != (api.Ratio{}) || e != api.ErrRange {
				t.Errorf("Sum(%v, %v) = %v, %v", x[0], x[1], s, e)
			}
		}
	}
}

func TestSumOfWrongOnes(t *testing.T) {
	good := []api.Ratio{{Num: 0, Den: 1}, {Num: 1, Den: 3}, {Num: most, Den: 1}, {Num: least, Den: 1}, {Num: 1, Den: most}}
	for _, r := range wrong() {
		for _, x := range append(good, wrong()...) {
			for _, p := range [][2]api.Ratio{{r, x}, {x, r}} {
				if s, e := Sum(p[0], p[1]); s != (api.Ratio{}) || e != api.ErrForm {
					t.Errorf("Sum(%v, %v) = %v, %v", p[0], p[1], s, e)
				}
			}
		}
	}
}

func TestSumAsTheLibrary(t *testing.T) {
	check := func(a, b api.Ratio) {
		want, e := small(new(big.Rat).Add(great(a), great(b)))
		if got, err := Sum(a, b); got != want || err != e {
			t.Fatalf("Sum(%v, %v) = %v, %v, by the library %v, %v", a, b, got, err, want, e)
		}
	}
	l := rights()
	for _, a := range l {
		for _, b := range l {
			check(a, b)
		}
	}
	q := sequence(5)
	for range 50000 {
		check(q.ratio(), q.ratio())
	}
	// Small numbers have most divisors in common.
	for den := int64(1); den < 25; den++ {
		for other := int64(1); other < 25; other++ {
			for num := int64(-9); num < 10; num++ {
				check(right(num, den), right(7, other))
				check(right(num, den), right(-4, other))
			}
		}
	}
}

func TestTimesKnown(t *testing.T) {
	for _, x := range []struct {
		a    api.Ratio
		n    int64
		want api.Ratio
	}{
		{api.Ratio{Num: 5, Den: 6}, 1, api.Ratio{Num: 5, Den: 6}},
		{api.Ratio{Num: 5, Den: 6}, -1, api.Ratio{Num: -5, Den: 6}},
		{api.Ratio{Num: 5, Den: 6}, -4, api.Ratio{Num: -10, Den: 3}},
		{api.Ratio{Num: -5, Den: 6}, -6, api.Ratio{Num: 5, Den: 1}},
		{api.Ratio{Num: 5, Den: 6}, 7, api.Ratio{Num: 35, Den: 6}},
		{api.Ratio{Num: 5, Den: 6}, 0, api.Ratio{Num: 0, Den: 1}},
		{api.Ratio{Num: least, Den: most}, 0, api.Ratio{Num: 0, Den: 1}},
		{api.Ratio{Num: 0, Den: 1}, 0, api.Ratio{Num: 0, Den: 1}},
		{api.Ratio{Num: 0, Den: 1}, least, api.Ratio{Num: 0, Den: 1}},
		{api.Ratio{Num: 1, Den: 1}, least, api.Ratio{Num: least, Den: 1}},
		{api.Ratio{Num: 1, Den: 1}, most, api.Ratio{Num: most, Den: 1}},
		{api.Ratio{Num: -1, Den: 1}, most, api.Ratio{Num: -most, Den: 1}},
		{api.Ratio{Num: least, Den: 1}, 1, api.Ratio{Num: least, Den: 1}},
		{api.Ratio{Num: -1 << 62, Den: 1}, 2, api.Ratio{Num: least, Den: 1}},
		{api.Ratio{Num: 1 << 62, Den: 1}, -2, api.Ratio{Num: least, Den: 1}},
		{api.Ratio{Num: 1, Den: most}, least, api.Ratio{Num: least, Den: most}},
		// The product goes beyond, the rational doesn't.
		{api.Ratio{Num: most, Den: 1 << 62}, 1 << 62, api.Ratio{Num: most, Den: 1}},
		{api.Ratio{Num: most, Den: 2}, 2, api.Ratio{Num: most, Den: 1}},
		{api.Ratio{Num: least, Den: 3}, 3, api.Ratio{Num: least, Den: 1}},
		{api.Ratio{Num: least, Den: most}, most, api.Ratio{Num: least, Den: 1}},
		{api.Ratio{Num: 1 - most, Den: most}, -most, api.Ratio{Num: most - 1, Den: 1}},
		{api.Ratio{Num: 3, Den: 1 << 62}, least, api.Ratio{Num: -6, Den: 1}},
		{api.Ratio{Num: -1, Den: 2}, least, api.Ratio{Num: 1 << 62, Den: 1}},
		{api.Ratio{Num: least, Den: 9}, 3, api.Ratio{Num: least, Den: 3}},
	} {
		if r, e := Times(x.a, x.n); r != x.want || e != api.OK {
			t.Errorf("Times(%v, %d) = %v, %v, want %v", x.a, x.n, r, e, x.want)
		}
	}
}

func TestTimesOutOfTheRange(t *testing.T) {
	for _, x := range []struct {
		a api.Ratio
		n int64
	}{
		{api.Ratio{Num: 1 << 62, Den: 1}, 2}, {api.Ratio{Num: -1 << 62, Den: 1}, -2}, {api.Ratio{Num: most, Den: 1}, 2}, {api.Ratio{Num: most, Den: 1}, -2},
		{api.Ratio{Num: least, Den: 1}, -1}, {api.Ratio{Num: least, Den: 3}, -1}, {api.Ratio{Num: least, Den: 3}, -3}, {api.Ratio{Num: -1, Den: 1}, least}, {api.Ratio{Num: -1, Den: 3}, least},
		{api.Ratio{Num: -27, Den: 2}, 341606371735362067}, // a step beyond the least number
		{api.Ratio{Num: most, Den: most - 1}, most}, {api.Ratio{Num: least, Den: most}, least}, {api.Ratio{Num: 1 << 32, Den: 3}, 1 << 32},
	} {
		if r, e := Times(x.a, x.n); r != (api.Ratio{}) || e != api.ErrRange {
			t.Errorf("Times(%v, %d) = %v, %v", x.a, x.n, r, e)
		}
	}
}

func TestTimesOfWrongOnes(t *testing.T) {
	for _, r := range wrong() {
		for _, n := range []int64{0, 1, -1, 2, 3, most, least} {
			if x, e := Times(r, n); x != (api.Ratio{}) || e != api.ErrForm {
				t.Errorf("Times(%v, %d) = %v, %v", r, n, x, e)
			}
		}
	}
}

func TestTimesAsTheLibrary(t *testing.T) {
	check := func(a api.Ratio, n int64) {
		want, e := small(new(big.Rat).Mul(great(a), big.NewRat(n, 1)))
		if got, err := Times(a, n); got != want || err != e {
			t.Fatalf("Times(%v, %d) = %v, %v, by the library %v, %v", a, n, got, err, want, e)
		}
	}
	for _, a := range rights() {
		for _, n := range edges() {
			check(a, n)
		}
	}
	q := sequence(6)
	for range 50000 {
		check(q.ratio(), q.number())
	}
}

func TestCompareKnown(t *testing.T) {
	// Each is less than the one behind it.
	for _, l := range [][]api.Ratio{
		{{Num: least, Den: 1}, {Num: least + 1, Den: 1}, {Num: -2, Den: 1}, {Num: -1, Den: 1}, {Num: -1, Den: 2}, {Num: -1, Den: 3}, {Num: -1, Den: most}, {Num: 0, Den: 1}, {Num: 1, Den: most}, {Num: 1, Den: 1 << 62}, {Num: 1, Den: 3}, {Num: 1, Den: 2}, {Num: 2, Den: 3}, {Num: 1, Den: 1}, {Num: 5, Den: 3}, {Num: most - 1, Den: 1}, {Num: most, Den: 1}},
		// Great ones whose products differ by 1 or 2.
		{{Num: most - 2, Den: most - 1}, {Num: most - 1, Den: most}, {Num: 1, Den: 1}, {Num: most, Den: most - 1}, {Num: most - 1, Den: most - 2}},
		{{Num: 1 - most, Den: most - 2}, {Num: -most, Den: most - 1}, {Num: -1, Den: 1}, {Num: 1 - most, Den: most}, {Num: 2 - most, Den: most - 1}},
		{{Num: least, Den: most - 2}, {Num: least, Den: most}, {Num: -1, Den: 1}},
		{{Num: 1<<32 - 1, Den: 1 << 32}, {Num: 1 << 32, Den: 1<<32 + 1}, {Num: 1<<32 + 1, Den: 1<<32 + 2}},
		{{Num: 1<<62 - 1, Den: most}, {Num: 1, Den: 2}, {Num: 1 << 62, Den: most}},
	} {
		for i, a := range l {
			if !Right(a) {
				t.Fatalf("%v isn't right", a)
			}
			for k, b := range l {
				want := 0
				if i < k {
					want = -1
				} else if i > k {
					want = 1
				}
				if c := Compare(a, b); c != want {
					t.Errorf("Compare(%v, %v) = %d", a, b, c)
				}
			}
		}
	}
}

func TestCompareOfWrongOnes(t *testing.T) {
	for _, r := range wrong() {
		for _, x := range append(rights(), wrong()...) {
			if c, d := Compare(r, x), Compare(x, r); c != 0 || d != 0 {
				t.Errorf("Compare of %v and %v: %d, turned about %d", r, x, c, d)
			}
		}
	}
}

func TestCompareAsTheLibrary(t *testing.T) {
	check := func(a, b api.Ratio) {
		if c := Compare(a, b); c != great(a).Cmp(great(b)) {
			t.Fatalf("Compare(%v, %v) = %d", a, b, c)
		}
	}
	l := rights()
	for _, a := range l {
		for _, b := range l {
			check(a, b)
		}
	}
	q := sequence(7)
	for range 50000 {
		a := q.ratio()
		check(a, q.ratio())
		// One step beside it, above and below.
		if a.Num < most && a.Den < most {
			check(a, right(a.Num+1, a.Den))
			check(a, right(a.Num, a.Den+1))
			check(a, right(a.Num+1, a.Den+1))
		}
	}
}

func TestCompareIsAnOrder(t *testing.T) {
	l := rights()
	for _, a := range l {
		for _, b := range l {
			c := Compare(a, b)
			if Compare(b, a) != -c {
				t.Fatalf("%v and %v: turned about it isn't turned", a, b)
			}
			if (c == 0) != (a == b) {
				t.Fatalf("%v and %v: %d", a, b, c)
			}
			if c >= 0 {
				continue
			}
			for _, d := range l {
				if Compare(b, d) < 0 && Compare(a, d) >= 0 {
					t.Fatalf("%v is less than %v, that than %v, but not the first than the last", a, b, d)
				}
			}
		}
	}
}

func TestCompareTellsWhatNumbersTell(t *testing.T) {
	l := rights()
	q := sequence(8)
	for range 100 {
		l = append(l, right(q.number()>>40, q.above()>>40+1))
	}
	for _, a := range l {
		for _, b := range l {
			c := Compare(a, b)
			for _, d := range []api.Ratio{{Num: 1, Den: 1}, {Num: -1, Den: 3}, {Num: 3, Den: 7}} {
				x, e := Sum(a, d)
				y, f := Sum(b, d)
				if e == api.OK && f == api.OK && Compare(x, y) != c {
					t.Fatalf("%v and %v, with %v added: %d and %d", a, b, d, c, Compare(x, y))
				}
			}
			for n, want := range map[int64]int{3: c, -6: -c, 0: 0} {
				x, e := Times(a, n)
				y, f := Times(b, n)
				if e == api.OK && f == api.OK && Compare(x, y) != want {
					t.Fatalf("%v and %v, times %d: %d and %d", a, b, n, c, Compare(x, y))
				}
			}
		}
	}
}

func TestSumHangsOnNoOrder(t *testing.T) {
	l := rights()
	for _, a := range l {
		for _, b := range l {
			x, e := Sum(a, b)
			y, f := Sum(b, a)
			if x != y || e != f {
				t.Fatalf("Sum of %v and %v: %v, %v, turned about %v, %v", a, b, x, e, y, f)
			}
		}
	}
	q, some := sequence(9), 0
	for range 20000 {
		a, b, c := right(q.number()>>44, q.above()>>44+1), right(q.number()>>44, q.above()>>44+1), right(q.number()>>44, q.above()>>44+1)
		x, e := sumOf(a, b, c)
		for _, p := range [][3]api.Ratio{{a, c, b}, {b, a, c}, {b, c, a}, {c, a, b}, {c, b, a}} {
			y, f := sumOf(p[0], p[1], p[2])
			if e != api.OK || f != api.OK {
				continue
			}
			some++
			if x != y {
				t.Fatalf("%v, %v, %v: %v, in another order %v", a, b, c, x, y)
			}
		}
	}
	if some < 10000 {
		t.Errorf("only %d sums of three are in the range", some)
	}
}

// sumOf adds three, from the front on.
func sumOf(a, b, c api.Ratio) (api.Ratio, api.Errno) {
	x, e := Sum(a, b)
	if e != api.OK {
		return api.Ratio{}, e
	}
	return Sum(x, c)
}
