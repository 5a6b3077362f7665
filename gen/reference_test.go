package gen_test

import (
	"fmt"
	"math"
	"math/big"
	"strconv"
	"strings"
	"testing"
)

const (
	// unit: values of patterns are told in units of 2^unit, products of them in units of 2^twice.
	unit  = -256
	twice = 2 * unit
	// deep is how many digits behind the point quotients and roots are reckoned to: more than any width's string has room for, behind as many noughts as there may be.
	deep = 640
)

// widths are the four, told anew: the tests don't ask the program for them.
func widths() []int { return []int{8, 16, 32, 64} }

// refusedWidths are numbers that are no width: those beside the widths, their negatives, and those of which only the lowest bits are a width.
func refusedWidths() []int {
	l := []int{0, 1, 2, 3, 4, 5, 6, 10, 12, 20, 24, 40, 48, 56, 60, 96, 128, 256, 1024,
		math.MaxInt, math.MinInt, math.MaxInt32, math.MinInt32}
	for _, n := range widths() {
		l = append(l, n-1, n+1, -n, -n-1, -n+1, n+1<<8, n+1<<16, n+1<<32, n+math.MinInt)
	}
	return l
}

func nar(n int) uint64 { return 1 << (n - 1) }

// most is the pattern of the greatest value.
func most(n int) uint64 { return nar(n) - 1 }

// unity is the pattern of 1.
func unity(n int) uint64 { return 1 << (n - 2) }

// folded is what is left of p, divided by 2^n.
func folded(n int, p uint64) uint64 { return p << (64 - n) >> (64 - n) }

// rank is a pattern as a signed integer.
func rank(n int, p uint64) int64 { return int64(p<<(64-n)) >> (64 - n) }

// dirty is a pattern with bits above its width (of 64 there are none), by a fixed rule.
func dirty(n int, p uint64) uint64 {
	above := (p+0x9e3779b97f4a7c15)*6364136223846793005 | 1<<32 | 1<<16 | 1<<8
	return folded(n, p) | above>>n<<n
}

// row answers words by a fixed rule, one behind the other.
func row(seed uint64) func() uint64 {
	return func() uint64 {
		seed = seed*6364136223846793005 + 1442695040888963407
		return seed ^ seed>>29
	}
}

// power is 2^k in units of 2^in.
func power(k, in int) *big.Int { return new(big.Int).Lsh(big.NewInt(1), uint(k-in)) }

// stringOf is the string of the number digits (a row of noughts and ones, of which the first is 1) of the scale s.
func stringOf(s int, digits string) string {
	k := int(math.Floor(float64(s) / 4))
	run := strings.Repeat("0", max(-k, 0)) + "1"
	if k >= 0 {
		run = strings.Repeat("1", k+1) + "0"
	}
	return run + fmt.Sprintf("%02b", s-4*k) + digits[1:]
}

// rounded is Round n of v times 2^in, word by word as the document tells it; of nought it is 0.
func rounded(n int, v *big.Int, in int) uint64 {
	if v.Sign() == 0 {
		return 0
	}
	p, left := cut(n, new(big.Int).Abs(v).Text(2), in)
	if left == "1" && p%2 == 1 || len(left) > 1 && left[0] == '1' {
		p++
	}
	if v.Sign() < 0 {
		return folded(n, -p)
	}
	return p
}

// cut is the first part of the string of a number above 0, told by its digits, and what is left of it, without the noughts at its end; at both ends and beyond them nothing is left.
func cut(n int, digits string, in int) (uint64, string) {
	s := len(digits) - 1 + in
	if s >= 4*n-8 {
		return most(n), ""
	}
	if s < 8-4*n || s == 8-4*n && strings.TrimRight(digits, "0") == "1" {
		return 1, ""
	}
	text := stringOf(s, digits+strings.Repeat("0", n))
	p, _ := strconv.ParseUint(text[:n-1], 2, 64)
	return p, strings.TrimRight(text[n-1:], "0")
}

// meaning is the value that a string tells, in units of 2^unit.
func meaning(text string) *big.Int {
	rest := strings.TrimLeft(text, text[:1])
	k := len(text) - len(rest) - 1
	if text[0] == '0' {
		k = -k - 1
	}
	rest = strings.TrimPrefix(rest, rest[:min(1, len(rest))]) + "00"
	e, _ := strconv.ParseUint(rest[:2], 2, 64)
	frac := strings.TrimSuffix(rest[2:], "00")
	v, _ := new(big.Int).SetString("1"+frac, 2)
	return v.Lsh(v, uint(4*k+int(e)-len(frac)-unit))
}

// value is a pattern's value in units of 2^unit; of NaR it is nil.
func value(n int, p uint64) *big.Int {
	p = folded(n, p)
	switch {
	case p == 0:
		return new(big.Int)
	case p == nar(n):
		return nil
	case p > nar(n):
		v := value(n, -p)
		return v.Neg(v)
	}
	return meaning(fmt.Sprintf("%0*b", n-1, p))
}

// values are those of patterns, and whether none of these is NaR.
func values(n int, patterns ...uint64) ([]*big.Int, bool) {
	var l []*big.Int
	for _, p := range patterns {
		v := value(n, p)
		if v == nil {
			return nil, false
		}
		l = append(l, v)
	}
	return l, true
}

// What each call must answer, reckoned without bounds.

func added(n int, a, b uint64) uint64 {
	v, real := values(n, a, b)
	if !real {
		return nar(n)
	}
	return rounded(n, v[0].Add(v[0], v[1]), unit)
}

func subtracted(n int, a, b uint64) uint64 {
	v, real := values(n, a, b)
	if !real {
		return nar(n)
	}
	return rounded(n, v[0].Sub(v[0], v[1]), unit)
}

func multiplied(n int, a, b uint64) uint64 {
	v, real := values(n, a, b)
	if !real {
		return nar(n)
	}
	return rounded(n, v[0].Mul(v[0], v[1]), twice)
}

func divided(n int, a, b uint64) uint64 {
	v, real := values(n, a, b)
	if !real || v[1].Sign() == 0 {
		return nar(n)
	}
	q, left := new(big.Int).QuoRem(v[0].Lsh(v[0], deep), v[1], new(big.Int))
	return rounded(n, behind(q, v[0].Sign()*v[1].Sign(), left.Sign() != 0), -deep-1)
}

func rooted(n int, a uint64) uint64 {
	v, real := values(n, a)
	if !real || v[0].Sign() < 0 {
		return nar(n)
	}
	square := v[0].Lsh(v[0], 2*deep+unit)
	r := new(big.Int).Sqrt(square)
	return rounded(n, behind(r, 1, new(big.Int).Mul(r, r).Cmp(square) != 0), -deep-1)
}

func fused(n int, a, b, c uint64) uint64 {
	v, real := values(n, a, b, c)
	if !real {
		return nar(n)
	}
	v[0].Mul(v[0], v[1])
	return rounded(n, v[0].Add(v[0], v[2].Lsh(v[2], -unit)), twice)
}

// converted is the pattern of the width m for what p means in the width n.
func converted(n, m int, p uint64) uint64 {
	v := value(n, p)
	if v == nil {
		return nar(m)
	}
	return rounded(m, v, unit)
}

// polynomial is what Horner must answer, with every step reckoned without bounds.
func polynomial(n int, l []uint64, x uint64) uint64 {
	r := uint64(0)
	for i := range l {
		r = fused(n, r, x, l[len(l)-1-i])
	}
	return r
}

// behind is a number with one more digit, which is 1 if anything stands behind the others.
func behind(v *big.Int, sign int, more bool) *big.Int {
	w := new(big.Int).Abs(v)
	w.Lsh(w, 1)
	if more {
		w.SetBit(w, 0, 1)
	}
	if sign < 0 {
		w.Neg(w)
	}
	return w
}

// The tests' own reading, reckoning and rounding, at what the document tells.
func TestTheReference(t *testing.T) {
	for p, k := range map[uint64]int{0x40: 0, 0x48: 1, 0x50: 2, 0x60: 4, 0x7f: 24, 0x01: -24, 0x7d: 18, 0x7e: 20} {
		if v := value(8, p); v.Cmp(power(k, unit)) != 0 {
			t.Errorf("value(8, %#x) = %v; want 2^%d", p, v, k)
		}
	}
	for k, want := range map[int]uint64{23: 0x7f, 22: 0x7e, 30: 0x7f, -40: 0x01, -24: 0x01, 0: 0x40} {
		if p := rounded(8, power(k, unit), unit); p != want {
			t.Errorf("Round 8 of 2^%d = %#x; want %#x", k, p, want)
		}
	}
	for sixteenths, want := range map[int64]uint64{17: 0x40, 19: 0x42, -19: 0xbe, 24: 0x44, -16: 0xc0} {
		if p := rounded(8, big.NewInt(sixteenths), -4); p != want {
			t.Errorf("Round 8 of %d/16 = %#x; want %#x", sixteenths, p, want)
		}
	}
	for _, c := range []answer{
		{"1 and the least, added", added(8, 0x40, 0x01), 0x40},
		{"the least less the greatest", subtracted(8, 0x01, 0x7f), 0x81},
		{"-1 times 3/2", multiplied(8, 0xc0, 0x44), 0xbc},
		{"1 divided by 3", divided(8, 0x40, 0x4c), 0x33},
		{"1 divided by -3", divided(8, 0x40, 0xb4), 0xcd},
		{"1 divided by 3, wider", divided(16, 0x4000, 0x4c00), 0x32ab},
		{"1 divided by Zero", divided(8, 0x40, 0), 0x80},
		{"the root of 2", rooted(8, 0x48), 0x43},
		{"the root of 4", rooted(8, 0x50), 0x48},
		{"the root of -1", rooted(8, 0xc0), 0x80},
		{"2^24 times 2^-24, less 1", fused(8, 0x7f, 0x01, 0xc0), 0},
		{"3/2, wider", converted(8, 16, 0x44), 0x4400},
		{"beside 3/2, narrower", converted(16, 8, 0x4401), 0x44},
		{"1 and 1 times 2", polynomial(8, []uint64{0x40, 0x40}, 0x48), 0x4c},
	} {
		if c.got != c.want {
			t.Errorf("%s: %#x; want %#x", c.what, c.got, c.want)
		}
	}
	for _, n := range widths() {
		for _, p := range patterns(n) {
			if converted(n, n, p) != p {
				t.Fatalf("%#x of the width %d is rounded to %#x", p, n, converted(n, n, p))
			}
		}
	}
}

// edges are the patterns of a width round which something changes: Zero, NaR, both ends, 1 and its negative, the quarters of the row, each with its neighbours; and every run, bare, full and mixed.
func edges(n int) []uint64 {
	var l []uint64
	for _, p := range []uint64{0, nar(n), nar(n) / 2, nar(n) + nar(n)/2, nar(n) / 4, 0x5555555555555555, 0xaaaaaaaaaaaaaaaa} {
		l = append(l, folded(n, p-2), folded(n, p-1), folded(n, p), folded(n, p+1), folded(n, p+2))
	}
	next := row(uint64(n))
	for i := 2; i < n-2; i += max(1, n/16) {
		tail := next() & (1<<i - 1)
		for _, p := range []uint64{1 << i, 1<<i - 1, 1<<i | tail, nar(n) - 1<<i, nar(n) - 1<<i | tail} {
			l = append(l, p, folded(n, -p))
		}
	}
	return l
}

// patterns are all of the widths 8 and 16; of the wider ones the edges and mixed ones, with runs of every length.
func patterns(n int) []uint64 {
	if n > 16 {
		l := edges(n)
		next := row(7)
		for i := range 3000 {
			p := folded(n, next())
			shift := i % (n - 2)
			l = append(l, p, p>>shift, folded(n, -(p>>shift)), most(n)-p>>(shift+1))
		}
		return l
	}
	l := make([]uint64, 1<<n)
	for i := range l {
		l[i] = uint64(i)
	}
	return l
}

// pair is two patterns, as they are handed in.
type pair struct{ a, b uint64 }

// pairs are all of the width 8; of the others the edges with one another, and some patterns with an edge, with one of any, and with themselves, each in either place.
func pairs(n int) []pair {
	var l []pair
	if n == 8 {
		for a := range uint64(256) {
			for b := range uint64(256) {
				l = append(l, pair{a, b})
			}
		}
		return l
	}
	e := edges(n)
	for i, a := range e {
		for j := i % 3; j < len(e); j += 3 {
			l = append(l, pair{a, e[j]})
		}
	}
	next := row(uint64(n) + 1)
	all := patterns(n)
	for i := 0; i < len(all); i += len(all) / 3000 {
		p, q := all[i], folded(n, next())
		l = append(l, pair{p, e[i%len(e)]}, pair{e[i%len(e)], p}, pair{p, q}, pair{q, p}, pair{p, p})
	}
	return l
}
