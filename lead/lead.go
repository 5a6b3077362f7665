// Package lead is layer 1: see shared/doc/01-lead.md.
package lead

import (
	"math/bits"

	"vernier/api"
)

// wordBits is how many bits a word has.
const wordBits = 64

// Run tells the bit that stands highest of the lowest n bits, and how many like it stand there in a row: P1.1.
func Run(x uint64, n int) (bool, int, error) {
	if n < 1 || n > wordBits {
		return false, 0, api.ErrArg
	}
	head := x << (wordBits - n)
	ones := head>>(wordBits-1) == 1
	if ones {
		head = ^head
	}
	// A field all of noughts would count on into the noughts that the shift let in below it.
	return ones, min(bits.LeadingZeros64(head), n), nil
}

// Len is how many bits a number has: P1.2.
func Len(x uint64) int { return bits.Len64(x) }

// Trail is how many noughts stand at a number's end: P1.3.
func Trail(x uint64) int { return bits.TrailingZeros64(x) }

// Mask is n ones: P1.4.
func Mask(n int) (uint64, error) {
	if n < 0 || n > wordBits {
		return 0, api.ErrArg
	}
	return lowest(n), nil
}

// Field is n bits, from the place at on: P1.5.
func Field(x uint64, at, n int) (uint64, error) {
	if !fits(at, n) {
		return 0, api.ErrArg
	}
	return x >> at & lowest(n), nil
}

// Put is x with other bits there: P1.6.
func Put(x uint64, at, n int, v uint64) (uint64, error) {
	if !fits(at, n) {
		return 0, api.ErrArg
	}
	there := lowest(n) << at
	return x&^there | v<<at&there, nil
}

// Extend is the lowest n bits as a signed number: P1.7.
func Extend(x uint64, n int) (int64, error) {
	if n < 1 || n > wordBits {
		return 0, api.ErrArg
	}
	above := wordBits - n
	// Shifting a signed number back down fills it with copies of its sign.
	return int64(x<<above) >> above, nil
}

// Show is the lowest n bits as a text: P1.8.
func Show(x uint64, n int) (string, error) {
	if n < 0 || n > wordBits {
		return "", api.ErrArg
	}
	text := make([]byte, n)
	for i := range text {
		text[n-1-i] = '0' + byte(x>>i&1)
	}
	return string(text), nil
}

// Read is the bits that a text shows: P1.9.
func Read(s string) (uint64, error) {
	if len(s) > wordBits {
		return 0, api.ErrLong
	}
	var x uint64
	for i := range len(s) {
		if s[i] != '0' && s[i] != '1' {
			return 0, api.ErrDigits
		}
		x = x<<1 | uint64(s[i]-'0')
	}
	return x, nil
}

// lowest is n ones, of an n from 0 to 64.
func lowest(n int) uint64 {
	// Of 64 the shift leaves nothing, and 0 less 1 wraps round to all ones.
	return uint64(1)<<n - 1
}

// fits tells whether a word has n bits from the place at on.
func fits(at, n int) bool {
	return at >= 0 && at <= wordBits && n >= 0 && n <= wordBits-at
}
