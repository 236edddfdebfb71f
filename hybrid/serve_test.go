package hybrid

import (
	"slices"
	"strings"
	"testing"

	"rankloft/api"
	"rankloft/doc"
)

// exchange is a request's bytes, and its answer's.
type exchange struct{ s, want string }

// exchanges serves requests one behind the other.
func exchanges(t *testing.T, e *Engine, l ...exchange) {
	t.Helper()
	for i, x := range l {
		if s := e.Serve(x.s); s != x.want {
			t.Fatalf("%d: %x: %x, want %x", i, x.s, s, x.want)
		}
	}
}

// The example: an empty request: the answer's bytes are 02.
func TestEmptyRequest(t *testing.T) {
	e, _ := engineOf(t)
	exchanges(t, e, exchange{"", "\x02"})
	if e.Served() != 1 {
		t.Error(e.Served())
	}
}

// Each Op, with and without an error, byte for byte.
func TestServeByHand(t *testing.T) {
	d := newDisk(t, mostQuota)
	e := opened(t, d)
	five := "\x05\x00\x01\x01\x03\x00\x81\x7f\x80\x80\x80\x80\x80\x80\x03" // term 1 with 3, 1, -1, tags 3
	six := "\x06\x00\x00\x80\x80\x80\x80\x80\x80\x80\x8c\x00"              // no term, 12 at its end
	sparse := func(k string) string { return "\x04\x00\x03\x01\x01\xc8\x01\x00\x00" + k + "\x00\x00\x00\x00\x00" }
	l := []exchange{
		{"\x05", "\x00\x00\x00"}, {"\x01\x05", "\x04"}, {"\x02", "\x00"}, {"\x03", "\x00"}, {"\x05", "\x00\x00\x00"},
		{sparse("\x01"), "\x00\x00"}, {sparse("\x00"), "\x01"},
		{"\x00" + five, "\x00"}, {"\x05", "\x00\x01\x00"}, {"\x01\x05", "\x00" + five}, {"\x01\x06", "\x04"},
		{"\x00" + six, "\x00"}, {"\x01\x06", "\x00" + six}, {"\x00\x07\x01", "\x04"},
		// 3 times 200 is 600, of which the zigzag is 1200.
		{sparse("\x09"), "\x00\x01\x05\xb0\x09\x02"},
		// By measure 1 from noughts: -2 and -144.
		{"\x04\x01\x00\x00\x08\x00\x00\x00\x00\x00\x00\x00\x00\x01\x02\x00\x00\x00\x00\x00", "\x00\x02\x05\x03\x02\x06\x9f\x02\x02"},
		// By ranks with 1: 5 is first in both, 6 second in one.
		{"\x04\x02\x00\x01\x01\x01\x08\x00\x00\x00\x00\x00\x00\x00\x00\x01\x02\x09\x01\x00\x00\x00", "\x00\x02\x05\x02\x02\x06\x02\x06"},
		{"\x04\x02\x00\x01\x01\x01\x08\x00\x00\x00\x00\x00\x00\x00\x00\x01\x02\x09\x01\x00\x00\x01", "\x00\x01\x05\x02\x02"},
		// By weights 0 and 2.
		{"\x04\x03\x00\x00\x08\x00\x00\x00\x00\x00\x00\x00\x00\x01\x09\x09\x00\x00\x02\x00", "\x00\x02\x05\x07\x02\x06\xbf\x04\x02"},
		{"\x04\x04" + strings.Repeat("\x00", 10), "\x0b"}, {"\x04\x00\x04" + strings.Repeat("\x00", 9), "\x0b"},
		{"\x04\x00\x00\x02\x01\x01\x01\x01\x00\x00\x01\x00\x00\x00\x00\x00", "\x09"}, {"\x04\x00\x00\x02\x02\x01\x01\x01\x00\x00\x01\x00\x00\x00\x00\x00", "\x02"},
		{"\x04\x00\x00\x41" + strings.Repeat("\x01", 130) + strings.Repeat("\x00", 8), "\x03"}, {"\x04\x01\x00\x00\x00\x00\x01\x00\x00\x00\x00\x00", "\x02"},
		{"\x02", "\x00"}, {"\x05", "\x00\x02\x01"}, {"\x02", "\x00"}, {"\x05", "\x00\x02\x01"},
		{"\x00\x06\x01", "\x00"}, {"\x00\x06\x01", "\x04"}, {"\x02", "\x00"}, {"\x05", "\x00\x01\x02"}, {"\x03", "\x00"}, {"\x05", "\x00\x01\x01"},
		{"\x01\x06", "\x04"}, {"\x01\x05", "\x00" + five}, {"\x00\x05\x01", "\x00"}, {"\x05", "\x00\x00\x01"},
	}
	exchanges(t, e, l...)
	if e.Served() != len(l) || len(e.Docs()) != 0 || !slices.Equal(d.List(), []string{"log.2", "man", "seg.2"}) {
		t.Error(e.Served(), e.Docs(), d.List())
	}
}

// Bytes that are no request are answered by ErrForm, and do nothing.
func TestServeNone(t *testing.T) {
	d := newDisk(t, mostQuota)
	e, p := opened(t, d), newPlain()
	for _, r := range few() {
		serves(t, e, p, puts(r))
	}
	files, effects, served := filesOf(t, d), d.Effects(), e.Served()
	var l []exchange
	for _, x := range known() {
		for n := range len(x.s) {
			l = append(l, exchange{x.s[:n], "\x02"})
		}
		l = append(l, exchange{x.s + "\x00", "\x02"}, exchange{"\x06" + x.s, "\x02"}, exchange{"\x80" + x.s, "\x02"})
	}
	exchanges(t, e, l...)
	if e.Served() != served+len(l) || d.Effects() != effects || !slices.Equal(filesOf(t, d), files) {
		t.Error(e.Served(), d.Effects())
	}
	holds(t, e, p)
}

// Served counts each request, whatever becomes of it, and nothing else.
func TestServed(t *testing.T) {
	d := newDisk(t, 60)
	e := opened(t, d)
	n := 0
	for _, s := range []string{"", "\xff", "\x05", "\x01\x01", "\x01\x80\x00", bytesOf(puts(few()[0])), bytesOf(puts(few()[1])), "\x00\x00\x01", "\x00\x00\x01", "\x02", "\x03", "\x02", bytesOf(asks(Query{})), bytesOf(asks(good(2)))} {
		e.Serve(s)
		n++
		if e.Served() != n {
			t.Fatal(e.Served(), n)
		}
		e.Ask(good(0))
		e.Docs()
		Print(counts())
		Parse(s)
		if e.Served() != n {
			t.Fatal(e.Served(), n)
		}
	}
	d.Crash(0)
	e.Serve(bytesOf(puts(few()[2])))
	e.Serve("\x02")
	if e.Served() != n+2 {
		t.Error(e.Served())
	}
	d.Start()
	if a := opened(t, d); a.Served() != 0 || e.Served() != n+2 {
		t.Error(a.Served(), e.Served())
	}
}

// Docs are the live ones, rising.
func TestDocs(t *testing.T) {
	e, p := engineOf(t)
	s := sequence(4)
	for range 400 {
		serves(t, e, p, s.request())
		if l := e.Docs(); !slices.Equal(l, p.numbers()) || !slices.IsSorted(l) {
			t.Fatal(l, p.numbers())
		}
	}
}

// As many documents as there may be, and one more.
func TestServeMany(t *testing.T) {
	e, p := engineOf(t)
	for n := range 256 {
		serves(t, e, p, puts(doc.Record{Doc: n * 3, V: vec(n%5 - 2)}))
		if n%50 == 0 {
			serves(t, e, p, flushes())
		}
	}
	exchanges(t, e, exchange{"\x05", "\x00\x80\x02\x06"}, exchange{bytesOf(puts(doc.Record{Doc: 1, V: vec()})), "\x03"}, exchange{"\x01\x01", "\x04"}, exchange{"\x05", "\x00\x80\x02\x06"})
	serves(t, e, p, puts(doc.Record{Doc: 3, V: vec(77)}))
	serves(t, e, p, goes(0))
	serves(t, e, p, puts(doc.Record{Doc: 1, V: vec()}))
	holds(t, e, p)
}

// With the power off, what would write is answered by ErrDown, what only asks as
// ever; behind an ErrDown an engine has nothing more to tell.
func TestServeDown(t *testing.T) {
	for _, r := range []Request{puts(few()[1]), goes(0), flushes(), merges()} {
		d := newDisk(t, mostQuota)
		e, p := opened(t, d), newPlain()
		for _, x := range []Request{puts(few()[0]), flushes(), puts(few()[2])} {
			serves(t, e, p, x)
		}
		d.Crash(0)
		exchanges(t, e, exchange{bytesOf(goes(1)), "\x04"})
		holds(t, e, p)
		exchanges(t, e, exchange{bytesOf(r), "\x07"})
		holds(t, e, newPlain())
		exchanges(t, e, exchange{bytesOf(r), "\x07"})
		if e, f := Open(d); e != nil || f != api.ErrDown {
			t.Error(e, f)
		}
		d.Start()
		holds(t, opened(t, d), p)
	}
}
