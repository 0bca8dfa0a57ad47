// Package num is words as numbers of 64 bits with a point.
package num

import "math"

// word is a word read as a number with a point; a type of its own, so that every answer goes out by bits and no other way.
type word float64

// none is the one answer for all that is no number: hardware differs in the sign and the rest of what it makes.
const none = 0x7ff8000000000000

// The least whole number of 64 bits with a sign, and the first one beyond the greatest: both are exact as words, which the greatest is not.
const (
	leastInt  = -1 << 63
	beyondInt = 1 << 63
)

// What Kind answers.
const (
	kindNumber = iota
	kindNought
	kindEndless
	kindNone
)

// read is the number that a word's bits stand for.
func read(a uint64) word { return word(math.Float64frombits(a)) }

// bits is a number's bits, with none for whatever is no number.
func (x word) bits() uint64 {
	if x.isNone() {
		return none
	}
	// The conversion has the number rounded here: no product may be fused with a caller's sum.
	return math.Float64bits(float64(x))
}

// isNone tells what is no number by its being unlike itself.
func (x word) isNone() bool { return x != x }

// Add is a + b.
func Add(a, b uint64) uint64 { return (read(a) + read(b)).bits() }

// Sub is a - b.
func Sub(a, b uint64) uint64 { return (read(a) - read(b)).bits() }

// Mul is a * b.
func Mul(a, b uint64) uint64 { return (read(a) * read(b)).bits() }

// Div is a / b.
func Div(a, b uint64) uint64 { return (read(a) / read(b)).bits() }

// Min is the lesser of two words, -0 being less than 0; none, if one is no number.
func Min(a, b uint64) uint64 {
	if eitherNone(a, b) {
		return none
	}
	if before(a, b) {
		return a
	}
	return b
}

// Max is the greater of two words, 0 being greater than -0; none, if one is no number.
func Max(a, b uint64) uint64 {
	if eitherNone(a, b) {
		return none
	}
	if before(a, b) {
		return b
	}
	return a
}

// eitherNone: is one of two words no number?
func eitherNone(a, b uint64) bool { return read(a).isNone() || read(b).isNone() }

// before is Less, but that it holds noughts apart: of equal words only they differ in their bits, and -0 has the greater ones.
func before(a, b uint64) bool {
	if read(a) == read(b) {
		return a > b
	}
	return Less(a, b)
}

// Less: is the first less? Of noughts neither is, nor of what is no number.
func Less(a, b uint64) bool { return read(a) < read(b) }

// ToInt is a word as a whole number with a sign, towards 0. What lies beyond is held back first: the language leaves open what its conversion makes of it.
func ToInt(a uint64) uint64 {
	x := read(a)
	switch {
	case x.isNone():
		return 0
	case x >= beyondInt:
		return math.MaxInt64
	case x < leastInt:
		return 1 << 63
	}
	return uint64(int64(x))
}

// ToFloat is a whole number with a sign as a word.
func ToFloat(a uint64) uint64 { return word(int64(a)).bits() }

// Kind: 0 a number other than 0, 1 a nought, 2 without an end, 3 no number.
func Kind(a uint64) int {
	x := read(a)
	switch {
	case x.isNone():
		return kindNone
	case x == 0:
		return kindNought
	case math.IsInf(float64(x), 0):
		return kindEndless
	}
	return kindNumber
}
