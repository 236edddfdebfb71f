package exact

import (
	"cmp"
	"math"
	"math/bits"
)

// wide is a size of two words: 2^64 times high, and low.
type wide struct{ high, low uint64 }

// product is the product of two words.
func product(a, b uint64) wide {
	high, low := Wide(a, b)
	return wide{high: high, low: low}
}

// order answers -1, 0 or 1, as x is less than y, the same, or greater.
func order(x, y wide) int {
	if x == y {
		return 0
	}
	if x.high == y.high {
		return cmp.Compare(x.low, y.low)
	}
	return cmp.Compare(x.high, y.high)
}

// plus is the sum of two products of an int64's size with a denominator, which
// leave room for it.
func (x wide) plus(y wide) wide {
	low, carry := bits.Add64(x.low, y.low, 0)
	high, _ := bits.Add64(x.high, y.high, carry)
	return wide{high: high, low: low}
}

// minus is what is left of x without y, which isn't greater.
func (x wide) minus(y wide) wide {
	low, borrow := bits.Sub64(x.low, y.low, 0)
	high, _ := bits.Sub64(x.high, y.high, borrow)
	return wide{high: high, low: low}
}

// over is how often d, above 0, goes into x.
func (x wide) over(d uint64) wide {
	low, _ := bits.Div64(x.high%d, x.low, d)
	return wide{high: x.high / d, low: low}
}

// rest is what is left of x by d, above 0.
func (x wide) rest(d uint64) uint64 {
	return bits.Rem64(x.high, x.low, d)
}

// total is the sum of two numbers, each a sign (is it below 0?) and a size.
func total(below [2]bool, x, y wide) (bool, wide) {
	if below[0] == below[1] {
		return below[0], x.plus(y)
	}
	if order(x, y) < 0 {
		return below[1], y.minus(x)
	}
	return below[0], x.minus(y)
}

// number is the int64 of that sign and size: 0, false, if there is none.
func number(below bool, x wide) (int64, bool) {
	most := uint64(math.MaxInt64)
	if below {
		// There is one more number below 0 than above it.
		most++
	}
	if order(x, wide{low: most}) > 0 {
		return 0, false
	}
	if below {
		return int64(-x.low), true
	}
	return int64(x.low), true
}
