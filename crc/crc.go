// Package crc is layer 1: sums of bytes (CRC-32), and bytes sealed by them.
package crc

import (
	"strings"
	"sync"
	"sync/atomic"

	"rankloft/api"
)

const (
	polynomial = 0xEDB88320
	sealSize   = 4
	// A meter is made for every sum, and most sums are of few bytes: a table
	// by half bytes costs far less to make than one by bytes, and does the
	// same in two looks.
	halfBits = 4
	halfMask = 1<<halfBits - 1
)

// Sum is the sum of the bytes of all parts, one behind the other.
func Sum(parts ...string) uint32 {
	m := New()
	for _, p := range parts {
		m.Add(p)
	}
	return m.Sum()
}

// Seal answers s with its sum behind it.
func Seal(s string) string {
	return s + seal(s)
}

// Open answers what was sealed: ErrForm, if s is too short for a sum;
// ErrCorrupt, if its sum is another.
func Open(s string) (string, api.Errno) {
	n := len(s) - sealSize
	if n < 0 {
		return "", api.ErrForm
	}
	if s[n:] != seal(s[:n]) {
		return "", api.ErrCorrupt
	}
	// A piece of s would share its memory.
	return strings.Clone(s[:n]), api.OK
}

// seal is the sum of s as bytes, the lowest first.
func seal(s string) string {
	n := Sum(s)
	return string([]byte{byte(n), byte(n >> 8), byte(n >> 16), byte(n >> 24)})
}

// Meter sums bytes as they come.
type Meter struct {
	once  sync.Once
	table [1 << halfBits]uint32
	sum   uint32
	count atomic.Int64
}

// New answers a meter that took nothing: the sum of no bytes is 0.
func New() *Meter { return &Meter{} }

// Add puts s behind all that came, and answers the same meter.
func (m *Meter) Add(s string) *Meter {
	m.once.Do(func() { m.table = makeTable() })
	// The kept sum is turned at its end already; going on needs it unturned.
	c := ^m.sum
	for i := range len(s) {
		c ^= uint32(s[i])
		c = m.table[c&halfMask] ^ c>>halfBits
		c = m.table[c&halfMask] ^ c>>halfBits
	}
	m.sum = ^c
	m.count.Add(int64(len(s)))
	return m
}

// Sum is the sum of all that came.
func (m *Meter) Sum() uint32 { return m.sum }

// Len is how many bytes came.
func (m *Meter) Len() int { return int(m.count.Load()) }

// makeTable answers what the sum's lowest half byte does to the rest of it
// while it is moved out.
func makeTable() [1 << halfBits]uint32 {
	var table [1 << halfBits]uint32
	for i := range table {
		c := uint32(i)
		for range halfBits {
			c = moveBit(c)
		}
		table[i] = c
	}
	return table
}

// moveBit moves one bit out of a sum.
func moveBit(c uint32) uint32 {
	if c&1 == 1 {
		return c>>1 ^ polynomial
	}
	return c >> 1
}
