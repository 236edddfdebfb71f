package crc

import (
	"hash/crc32"
	"strings"
	"testing"
	"unsafe"

	"rankloft/api"
)

// wordSum works a sum out bit by bit, as the chapter's words say it.
func wordSum(s string) uint32 {
	c := uint32(0xFFFFFFFF)
	for i := 0; i < len(s); i++ {
		c ^= uint32(s[i])
		for range 8 {
			if c&1 == 1 {
				c = c>>1 ^ 0xEDB88320
			} else {
				c >>= 1
			}
		}
	}
	return c ^ 0xFFFFFFFF
}

// sequence is a fixed row of numbers without an order that shows.
type sequence uint64

func (q *sequence) next() uint64 {
	*q = *q*6364136223846793005 + 1442695040888963407
	x := uint64(*q)
	return x ^ x>>29
}

func (q *sequence) text(n int) string {
	b := make([]byte, n)
	for i := range b {
		b[i] = byte(q.next() >> 8)
	}
	return string(b)
}

// texts are the inputs that most tests go through: every length up to 40,
// every single byte, and some greater ones.
func texts() []string {
	q := sequence(1)
	l := []string{"123456789", strings.Repeat("\x00", 33), strings.Repeat("\xff", 33), "a\x00", "\x00a"}
	for n := range 41 {
		l = append(l, q.text(n))
	}
	for b := range 256 {
		l = append(l, string([]byte{byte(b)}))
	}
	for _, n := range []int{255, 256, 257, 4096, 70001} {
		l = append(l, q.text(n))
	}
	return l
}

func TestSumKnown(t *testing.T) {
	known := map[string]uint32{
		"":                 0,
		"a":                0xe8b7be43,
		"123456789":        0xcbf43926,
		"\x00\x00\x00\x00": 0x2144df1c,
		"\xff\xff\xff\xff": 0xffffffff,
		"The quick brown fox jumps over the lazy dog": 0x414fa339,
	}
	for s, want := range known {
		if n := Sum(s); n != want {
			t.Errorf("Sum(%q) = %#x, want %#x", s, n, want)
		}
	}
}

func TestSumOfOnePart(t *testing.T) {
	for _, s := range texts() {
		n := Sum(s)
		if want := wordSum(s); n != want {
			t.Errorf("Sum of %d bytes = %#x, by the words %#x", len(s), n, want)
		}
		if want := crc32.ChecksumIEEE([]byte(s)); n != want {
			t.Errorf("Sum of %d bytes = %#x, by the library %#x", len(s), n, want)
		}
	}
}

func TestSumOfNoBytes(t *testing.T) {
	for _, parts := range [][]string{nil, {}, {""}, {"", "", ""}} {
		if n := Sum(parts...); n != 0 {
			t.Errorf("Sum(%q) = %#x, want 0", parts, n)
		}
	}
}

func TestSumOfParts(t *testing.T) {
	for _, parts := range [][]string{
		{"1234", "56789"},
		{"", "123456789"},
		{"123456789", ""},
		{"", "1", "", "", "2345678", "9", ""},
		{"1", "2", "3", "4", "5", "6", "7", "8", "9"},
	} {
		if n := Sum(parts...); n != 0xcbf43926 {
			t.Errorf("Sum(%q) = %#x", parts, n)
		}
	}
	q := sequence(2)
	s := q.text(60)
	for i := range len(s) + 1 {
		for j := i; j <= len(s); j++ {
			if n := Sum(s[:i], s[i:j], s[j:]); n != wordSum(s) {
				t.Fatalf("parts cut at %d and %d: %#x", i, j, n)
			}
		}
	}
	if Sum("ab", "c") == Sum("c", "ab") {
		t.Error("the order of the parts plays no part")
	}
}

func TestSumLeavesItsParts(t *testing.T) {
	room := []string{"ab", "", "cd", "spare", "room"}
	Sum(room[:3]...)
	if got := strings.Join(room, "|"); got != "ab||cd|spare|room" {
		t.Errorf("the parts became %q", got)
	}
}

func TestSealLaysTheSumBehind(t *testing.T) {
	known := map[string]string{
		"":          "\x00\x00\x00\x00",
		"123456789": "123456789\x26\x39\xf4\xcb",
		"a":         "a\x43\xbe\xb7\xe8",
	}
	for s, want := range known {
		if got := Seal(s); got != want {
			t.Errorf("Seal(%q) = %q, want %q", s, got, want)
		}
	}
	for _, s := range texts() {
		n := wordSum(s)
		want := s + string([]byte{byte(n), byte(n >> 8), byte(n >> 16), byte(n >> 24)})
		if Seal(s) != want {
			t.Errorf("Seal of %d bytes is another", len(s))
		}
	}
}

func TestSealedIsOpened(t *testing.T) {
	for _, s := range texts() {
		if got, e := Open(Seal(s)); got != s || e != api.OK {
			t.Errorf("%d bytes, there and back: %d bytes, %v", len(s), len(got), e)
		}
		if got, e := Open(Seal(Seal(s))); got != Seal(s) || e != api.OK {
			t.Errorf("%d bytes, sealed twice: %d bytes, %v", len(s), len(got), e)
		}
	}
}

func TestOpenTooShort(t *testing.T) {
	for _, s := range []string{"", "\x00", "\x00\x00", "\x00\x00\x00", "a", "abc", "\xff\xff\xff"} {
		if got, e := Open(s); got != "" || e != api.ErrForm {
			t.Errorf("Open(%q) = %q, %v, want ErrForm", s, got, e)
		}
	}
}

func TestOpenWrongSum(t *testing.T) {
	for _, s := range []string{
		"abcd",
		"\x01\x00\x00\x00",
		"\x00\x00\x00\x01",
		"\xff\xff\xff\xff",
		"123456789\x26\x39\xf4\xca",
		"123456789\xcb\xf4\x39\x26", // the highest byte first
		"123456788\x26\x39\xf4\xcb",
		"23456789\x26\x39\xf4\xcb",
		"123456789\x26\x39\xf4",
		"123456789\x26\x39\xf4\xcb\x00",
		"123456789\xd9\xc6\x0b\x34", // not turned at the end
	} {
		if got, e := Open(s); got != "" || e != api.ErrCorrupt {
			t.Errorf("Open(%q) = %q, %v, want ErrCorrupt", s, got, e)
		}
	}
}

func TestOpenAnswersNewMemory(t *testing.T) {
	s := Seal("some bytes")
	got, _ := Open(s)
	if unsafe.StringData(got) == unsafe.StringData(s) {
		t.Error("what was opened shares its memory with the argument")
	}
}

// turn turns the bits of s, in each byte the lowest first, from the bit of
// that number on, by a pattern of 32.
func turn(s string, from int, pattern uint32) string {
	b := []byte(s)
	for i := range 32 {
		if pattern>>i&1 == 1 {
			b[(from+i)/8] ^= 1 << ((from + i) % 8)
		}
	}
	return string(b)
}

// refused checks that Open refuses s, turned.
func refused(t *testing.T, s string, from int, pattern uint32) {
	t.Helper()
	if got, e := Open(turn(s, from, pattern)); got != "" || e != api.ErrCorrupt {
		t.Fatalf("%d bytes, turned from bit %d on by %#x: %q, %v", len(s), from, pattern, got, e)
	}
}

func TestTurnedBitsAreSeen(t *testing.T) {
	q := sequence(3)
	for _, s := range []string{"", "a", "123456789", strings.Repeat("\x00", 12), strings.Repeat("\xff", 12), q.text(40)} {
		s = Seal(s)
		for from := range len(s) * 8 {
			// The window may not reach behind the end.
			most := uint32(0xFFFFFFFF)
			if room := len(s)*8 - from; room < 32 {
				most = 1<<room - 1
			}
			for i := range 32 {
				for j := range i + 1 {
					if p := uint32(1<<i | 1<<j); p&^most == 0 {
						refused(t, s, from, p)
					}
				}
			}
			refused(t, s, from, most)
			for _, p := range []uint32{0xEDB88320, 0x04C11DB7, 0x80000001, 0xDB710641} {
				if p&most != 0 {
					refused(t, s, from, p&most)
				}
			}
			for range 100 {
				if p := uint32(q.next()>>16) & most; p != 0 {
					refused(t, s, from, p)
				}
			}
		}
	}
}

func TestAllShortPatternsAreSeen(t *testing.T) {
	s := Seal("123")
	for from := range len(s)*8 - 11 {
		for p := uint32(1); p < 1<<12; p++ {
			refused(t, s, from, p)
		}
	}
}

func TestMeterThatTookNothing(t *testing.T) {
	for name, m := range map[string]*Meter{"new": New(), "empty added": New().Add("").Add("")} {
		if m.Sum() != 0 || m.Len() != 0 {
			t.Errorf("%s: %#x, %d", name, m.Sum(), m.Len())
		}
	}
}

func TestMeterGoesOn(t *testing.T) {
	q := sequence(4)
	for step := range 17 {
		s, m := q.text(200), New()
		for i := 0; i < len(s); {
			n := min(step, len(s)-i)
			if step == 0 {
				n = int(q.next() % uint64(len(s)-i+1))
			}
			if got := m.Add(s[i : i+n]); got != m {
				t.Fatal("Add answers another meter")
			}
			i += n
			// Asked in between, and twice, it goes on all the same.
			for range 2 {
				if m.Sum() != Sum(s[:i]) || m.Len() != i {
					t.Fatalf("step %d, behind %d bytes: %#x, %d", step, i, m.Sum(), m.Len())
				}
			}
		}
	}
}

func TestMeterChained(t *testing.T) {
	m := New().Add("123").Add("").Add("456").Add("789")
	if m.Sum() != 0xcbf43926 || m.Len() != 9 {
		t.Errorf("%#x, %d", m.Sum(), m.Len())
	}
}

func TestMetersAreApart(t *testing.T) {
	a, b := New(), New()
	a.Add("12345")
	b.Add("a")
	a.Add("6789")
	if a.Sum() != 0xcbf43926 || a.Len() != 9 {
		t.Errorf("the first: %#x, %d", a.Sum(), a.Len())
	}
	if b.Sum() != 0xe8b7be43 || b.Len() != 1 {
		t.Errorf("the second: %#x, %d", b.Sum(), b.Len())
	}
}

func TestMeterMakesItsTableWhenAsked(t *testing.T) {
	m, none := New(), [1 << halfBits]uint32{}
	if m.table != none {
		t.Error("a new meter has its table")
	}
	m.Add("a")
	if m.table == none {
		t.Fatal("a meter that took a byte has no table")
	}
	// Were it made anew, the mark would be gone.
	m.table[0] = 1
	m.Add("")
	if m.table[0] != 1 {
		t.Error("the table was made twice")
	}
}
