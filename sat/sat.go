// Package sat is layer 1: numbers that stop at their end. See shared/doc/01-sat.md.
package sat

import (
	"cmp"
	"math"
	"math/bits"
)

// most is the greatest count: what would be above it is held there.
const most uint64 = math.MaxUint64

// Add: the sum, held.
func Add(a, b uint64) uint64 {
	sum, carry := bits.Add64(a, b, 0)
	if carry != 0 {
		return most
	}
	return sum
}

// Sub: the difference, held.
func Sub(a, b uint64) uint64 {
	if a < b {
		return 0
	}
	return a - b
}

// Mul: the product, held.
func Mul(a, b uint64) uint64 {
	hi, lo := bits.Mul64(a, b)
	if hi != 0 {
		return most
	}
	return lo
}

// Cross: how one product stands to another one.
func Cross(a, b, c, d uint64) int {
	leftHi, leftLo := bits.Mul64(a, b)
	rightHi, rightLo := bits.Mul64(c, d)
	if leftHi != rightHi {
		return cmp.Compare(leftHi, rightHi)
	}
	return cmp.Compare(leftLo, rightLo)
}

// Scale: a product by a number, rounded down, held.
func Scale(a, b, c uint64) (q uint64, ok bool) {
	if c == 0 {
		return 0, false
	}
	defer func() {
		if recover() != nil {
			q, ok = most, true
		}
	}()
	hi, lo := bits.Mul64(a, b)
	return quotient(hi, lo, c), true
}

// quotient is hi times 2^64 and lo, by c, rounded down. It panics where that is no count, so that Scale can hold it: no uint64 is left over to tell it by.
func quotient(hi, lo, c uint64) uint64 {
	if hi >= c {
		panic("sat: a quotient has no room")
	}
	q, _ := bits.Div64(hi, lo, c)
	return q
}

// Clamp: a number within bounds.
func Clamp(v, lo, hi int64) int64 {
	if v < lo || hi < lo {
		return lo
	}
	if v > hi {
		return hi
	}
	return v
}
