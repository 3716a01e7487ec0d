// Package wide: signed integers of 128 bits, from -2^127 to 2^127 - 1: see DOC.md, chapter 1.
package wide

import (
	"math"
	"math/bits"
)

// W stands for Hi times 2^64 plus Lo.
type W struct {
	Hi int64
	Lo uint64
}

// Of makes a number wide.
func Of(a int64) W { return W{Hi: a >> 63, Lo: uint64(a)} }

// Mul multiplies.
func Mul(a, b int64) W {
	hi, lo := bits.Mul64(uint64(a), uint64(b))
	// Read without its sign, a negative factor is 2^64 too great: so the other factor must come off the upper half.
	return W{Hi: int64(hi) - (a>>63)&b - (b>>63)&a, Lo: lo}
}

// Add adds all, in their order; false if a sum on the way does not fit.
func Add(l ...W) (W, bool) {
	var sum W
	for _, a := range l {
		lo, carry := bits.Add64(sum.Lo, a.Lo, 0)
		next := W{Hi: sum.Hi + a.Hi + int64(carry), Lo: lo}
		// Only two numbers of one sign can go too far, and then the sign turns.
		if (sum.Hi^next.Hi)&(a.Hi^next.Hi) < 0 {
			return W{}, false
		}
		sum = next
	}
	return sum, true
}

// Neg turns the sign; false if there is no such number.
func Neg(a W) (W, bool) {
	if a.Hi == math.MinInt64 && a.Lo == 0 {
		return W{}, false
	}
	return negate(a), true
}

// Cmp compares: -1, 0 or 1.
func Cmp(a, b W) int {
	switch {
	case a.Hi < b.Hi || a.Hi == b.Hi && a.Lo < b.Lo:
		return -1
	case a == b:
		return 0
	}
	return 1
}

// Shift multiplies by 2^s; false if s is not from 0 to 127 or the product does not fit.
func Shift(a int64, s int) (W, bool) {
	// The sign needs one of the 128 bits: what is left must hold a's bits and the s zeros below them.
	if s < 0 || s > 127 || bits.Len64(uint64(a^a>>63))+s > 127 {
		return W{}, false
	}
	if s >= 64 {
		return W{Hi: a << (s - 64)}, true
	}
	return W{Hi: a >> (64 - s), Lo: uint64(a) << s}, true
}

// Round divides by 2^s, rounded; false if s is not from 0 to 126 or the quotient does not fit.
func Round(a W, s int) (int64, bool) {
	if s < 0 || s > 126 {
		return 0, false
	}
	hi, lo := size(a)
	if s > 0 {
		hi, lo = addHalf(hi, lo, uint(s))
	}
	if hi, lo = shiftRight(hi, lo, uint(s)); hi != 0 {
		return 0, false
	}
	return signed(lo, a.Hi < 0)
}

// Div divides, rounded; false if d is 0 or the quotient does not fit.
func Div(a W, d int64) (int64, bool) {
	hi, lo := size(a)
	_, by := size(Of(d))
	if hi >= by { // d is 0, or the quotient needs more than 64 bits
		return 0, false
	}
	q, rest := bits.Div64(hi, lo, by)
	if q > 1<<63 { // so that one more can't wrap round
		return 0, false
	}
	if rest >= by-rest { // twice the rest might wrap round
		q++
	}
	return signed(q, (a.Hi < 0) != (d < 0))
}

// Root gives the square root, rounded; false if a is negative or the root does not fit.
func Root(a W) (int64, bool) {
	// With m for 2^63 - 1: above m times m + m the root is rounded up, beyond m.
	if a.Hi < 0 || Cmp(a, W{Hi: 1<<62 - 1, Lo: 1 << 63}) > 0 {
		return 0, false
	}
	r := floorRoot(a)
	if a.Lo-r*r > r { // what is left is at most 2 r: the lower halves tell it
		r++
	}
	return int64(r), true
}

// floorRoot gives the greatest integer whose square is at most a, for a from 0 to 2^126 - 1.
func floorRoot(a W) uint64 {
	if a == (W{}) {
		return 0
	}
	// Newton's steps from above fall till they reach the root. None is below it, so that no quotient is too long for Div64.
	x := uint64(1) << ((length(a) + 1) / 2)
	for {
		q, _ := bits.Div64(uint64(a.Hi), a.Lo, x)
		if q >= x {
			return x
		}
		x = (x + q) / 2
	}
}

// length gives how many bits a has, for a not negative.
func length(a W) int {
	if a.Hi != 0 {
		return 64 + bits.Len64(uint64(a.Hi))
	}
	return bits.Len64(a.Lo)
}

// negate turns the sign; -2^127 stays what it is.
func negate(a W) W {
	lo, borrow := bits.Sub64(0, a.Lo, 0)
	return W{Hi: -a.Hi - int64(borrow), Lo: lo}
}

// size gives a's absolute value: without a sign, as that of -2^127 needs all bits.
func size(a W) (hi, lo uint64) {
	if a.Hi < 0 {
		a = negate(a)
	}
	return uint64(a.Hi), a.Lo
}

// signed gives an absolute value its sign; false if it does not fit.
func signed(size uint64, negative bool) (int64, bool) {
	switch {
	case negative && size <= 1<<63:
		return -int64(size), true
	case !negative && size <= math.MaxInt64:
		return int64(size), true
	}
	return 0, false
}

// addHalf adds 2^(s-1), for s from 1 to 126, to at most 2^127.
func addHalf(hi, lo uint64, s uint) (uint64, uint64) {
	if s > 64 {
		return hi + 1<<(s-65), lo
	}
	lo, carry := bits.Add64(lo, 1<<(s-1), 0)
	return hi + carry, lo
}

// shiftRight drops the lowest s bits, for s from 0 to 127.
func shiftRight(hi, lo uint64, s uint) (uint64, uint64) {
	if s >= 64 {
		return 0, hi >> (s - 64)
	}
	return hi >> s, hi<<(64-s) | lo>>s
}
