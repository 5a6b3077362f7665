package fuse_test

import (
	"fmt"
	"math"
	"math/big"
	"strconv"
	"strings"
	"testing"

	"vernier/api"
)

const (
	top      = math.MaxUint64
	one      = 1 << 63 // the first word of a power of two
	farScale = 1 << 40 // the greatest scale of a sound Exact
	unit     = -256    // values of patterns are told in units of 2^unit
)

// widths are the four, told anew: the tests don't ask the program for them.
func widths() []int { return []int{8, 16, 32, 64} }

// refusedWidths are numbers that are no width: those beside the widths, their negatives, and those of which only the lowest bits are a width.
func refusedWidths() []int {
	l := []int{0, 1, 2, 3, 4, 5, 6, 10, 12, 20, 24, 40, 48, 56, 60, 96, 128, 256, 1024,
		math.MaxInt, math.MinInt, math.MaxInt32, math.MinInt32}
	for _, n := range widths() {
		l = append(l, n-1, n+1, -n, -n-1, -n+1, n+1<<8, n+1<<16, n+1<<32, n+math.MinInt)
	}
	return l
}

func nar(n int) uint64 { return 1 << (n - 1) }

// unity is the pattern of 1.
func unity(n int) uint64 { return 1 << (n - 2) }

// folded is what is left of p, divided by 2^n.
func folded(n int, p uint64) uint64 { return p << (64 - n) >> (64 - n) }

// rank is a pattern as a signed integer.
func rank(n int, p uint64) int64 { return int64(p<<(64-n)) >> (64 - n) }

// dirty is a pattern with bits above its width (of 64 there are none), by a fixed rule.
func dirty(n int, p uint64) uint64 {
	above := (p+0x9e3779b97f4a7c15)*6364136223846793005 | 1<<32 | 1<<16 | 1<<8
	return folded(n, p) | above>>n<<n
}

// row answers words by a fixed rule, one behind the other.
func row(seed uint64) func() uint64 {
	return func() uint64 {
		seed = seed*6364136223846793005 + 1442695040888963407
		return seed ^ seed>>29
	}
}

// exact is an Exact that is a Real.
func exact(scale int, hi, lo uint64, rest bool) api.Exact {
	return api.Exact{Kind: api.Real, Scale: scale, Hi: hi, Lo: lo, Rest: rest}
}

// negative is the negative of a Real.
func negative(x api.Exact) api.Exact {
	x.Neg = !x.Neg
	return x
}

// power is 2^k in units of 2^in.
func power(k, in int) *big.Int { return new(big.Int).Lsh(big.NewInt(1), uint(k-in)) }

// stringOf is the string of the number digits (a row of noughts and ones, of which the first is 1) of the scale s.
func stringOf(s int, digits string) string {
	k := int(math.Floor(float64(s) / 4))
	run := strings.Repeat("0", max(-k, 0)) + "1"
	if k >= 0 {
		run = strings.Repeat("1", k+1) + "0"
	}
	return run + fmt.Sprintf("%02b", s-4*k) + digits[1:]
}

// rounded is Round n of v times 2^in, word by word as the document tells it; of nought it is 0.
func rounded(n int, v *big.Int, in int) uint64 {
	if v.Sign() == 0 {
		return 0
	}
	p, left := cut(n, new(big.Int).Abs(v).Text(2), in)
	if left == "1" && p%2 == 1 || len(left) > 1 && left[0] == '1' {
		p++
	}
	if v.Sign() < 0 {
		return folded(n, -p)
	}
	return p
}

// cut is the first part of the string of a number above 0, told by its digits, and what is left of it, without the noughts at its end; at both ends and beyond them nothing is left.
func cut(n int, digits string, in int) (uint64, string) {
	s := len(digits) - 1 + in
	if s >= 4*n-8 {
		return nar(n) - 1, ""
	}
	if s < 8-4*n || s == 8-4*n && strings.TrimRight(digits, "0") == "1" {
		return 1, ""
	}
	text := stringOf(s, digits+strings.Repeat("0", n))
	p, _ := strconv.ParseUint(text[:n-1], 2, 64)
	return p, strings.TrimRight(text[n-1:], "0")
}

// meaning is the value that a string tells, in units of 2^unit.
func meaning(text string) *big.Int {
	rest := strings.TrimLeft(text, text[:1])
	k := len(text) - len(rest) - 1
	if text[0] == '0' {
		k = -k - 1
	}
	rest = strings.TrimPrefix(rest, rest[:min(1, len(rest))]) + "00"
	e, _ := strconv.ParseUint(rest[:2], 2, 64)
	frac := strings.TrimSuffix(rest[2:], "00")
	v, _ := new(big.Int).SetString("1"+frac, 2)
	return v.Lsh(v, uint(4*k+int(e)-len(frac)-unit))
}

// value is a pattern's value in units of 2^unit; of NaR it is nil.
func value(n int, p uint64) *big.Int {
	p = folded(n, p)
	switch {
	case p == 0:
		return new(big.Int)
	case p == nar(n):
		return nil
	case p > nar(n):
		v := value(n, -p)
		return v.Neg(v)
	}
	return meaning(fmt.Sprintf("%0*b", n-1, p))
}

// pattern is the pattern whose value is v times 2^in, if there is one.
func pattern(n int, v *big.Int, in int) (uint64, bool) {
	p, low := rounded(n, v, in), min(unit, in)
	w := value(n, p)
	return p, w.Lsh(w, uint(unit-low)).Cmp(new(big.Int).Lsh(v, uint(in-low))) == 0
}

// tie is what lies half way on the string from p's, of a p above Zero, to the one behind it, in units of 2^unit.
func tie(n int, p uint64) *big.Int { return meaning(fmt.Sprintf("%0*b1", n-1, p)) }

// whole is the whole root of a number, and whether the square of that is less.
func whole(v *big.Int) (*big.Int, bool) {
	r := new(big.Int).Sqrt(v)
	return r, new(big.Int).Mul(r, r).Cmp(v) != 0
}

// twice is the unit in which products are told: 2^twice.
const twice = 2 * unit

// deep is how many digits behind the point a root is reckoned to: a number near 1 has room for 59, the least root's first is the 248th.
const deep = 320

// product is the product of two patterns' values, in units of 2^twice; if one of them is NaR, it is nil.
func product(n int, a, b uint64) *big.Int {
	x, y := value(n, a), value(n, b)
	if x == nil || y == nil {
		return nil
	}
	return x.Mul(x, y)
}

// fma is what Fma must answer, reckoned without bounds.
func fma(n int, a, b, c uint64) uint64 {
	v, w := product(n, a, b), value(n, c)
	if v == nil || w == nil {
		return nar(n)
	}
	return rounded(n, v.Add(v, w.Lsh(w, -unit)), twice)
}

// paired is what Pair must answer, reckoned without bounds.
func paired(n int, a, b, c, d uint64) uint64 {
	v, w := product(n, a, b), product(n, c, d)
	if v == nil || w == nil {
		return nar(n)
	}
	return rounded(n, v.Add(v, w), twice)
}

// crossed is what Cross must answer, reckoned without bounds.
func crossed(n int, a, b, c, d uint64) uint64 {
	v, w := product(n, a, b), product(n, c, d)
	if v == nil || w == nil {
		return nar(n)
	}
	return rounded(n, v.Sub(v, w), twice)
}

// rooted is the root of a number (in units of 2^twice) in units of 2^-deep; if the digits don't end there, the last one is 1.
func rooted(v *big.Int) *big.Int {
	r, more := whole(new(big.Int).Lsh(v, 2*deep+twice-2))
	r.Lsh(r, 1)
	if more {
		r.SetBit(r, 0, 1)
	}
	return r
}

// hypot is what Hypot must answer, reckoned without bounds.
func hypot(n int, a, b uint64) uint64 {
	v, w := product(n, a, a), product(n, b, b)
	if v == nil || w == nil {
		return nar(n)
	}
	return rounded(n, rooted(v.Add(v, w)), -deep)
}

// The tests' own reading, multiplying, rooting and rounding, at what the document tells.
func TestTheReference(t *testing.T) {
	for p, want := range map[uint64]*big.Int{
		0x40: power(0, unit), 0x48: power(1, unit), 0x50: power(2, unit), 0x60: power(4, unit), 0x7f: power(24, unit), 0x01: power(-24, unit),
		0x7d: power(18, unit), 0x7e: power(20, unit), 0xc0: new(big.Int).Neg(power(0, unit)),
		0x44: new(big.Int).Mul(big.NewInt(3), power(-1, unit)), 0x6a: new(big.Int).Mul(big.NewInt(3), power(5, unit)),
	} {
		if v := value(8, p); v.Cmp(want) != 0 {
			t.Errorf("value(8, %#x) = %v; want %v", p, v, want)
		}
	}
	for k, want := range map[int]uint64{23: 0x7f, 22: 0x7e, 30: 0x7f, -40: 0x01, -24: 0x01, 0: 0x40} {
		if p := rounded(8, power(k, unit), unit); p != want {
			t.Errorf("Round 8 of 2^%d = %#x; want %#x", k, p, want)
		}
	}
	for sixteenths, want := range map[int64]uint64{17: 0x40, 19: 0x42, -19: 0xbe} {
		if p := rounded(8, big.NewInt(sixteenths), -4); p != want {
			t.Errorf("Round 8 of %d/16 = %#x; want %#x", sixteenths, p, want)
		}
	}
	for v, want := range map[int64]int64{0: 0, 1: 1, 2: 1, 3: 1, 4: 2, 8: 2, 9: 3, 15: 3, 16: 4, 99: 9, 100: 10} {
		if r, more := whole(big.NewInt(v)); r.Int64() != want || more != (want*want < v) {
			t.Errorf("the whole root of %d is %v, %v", v, r, more)
		}
	}
	for k := twice; k <= -twice; k += 2 {
		if r := rooted(power(k, twice)); r.Cmp(power(k/2, -deep)) != 0 {
			t.Errorf("the root of 2^%d is %v", k, r)
		}
	}
	if p := rounded(8, rooted(power(1, twice)), -deep); p != 0x43 {
		t.Errorf("Round 8 of the root of 2 = %#x", p)
	}
	if v := tie(8, 0x7e); v.Cmp(power(22, unit)) != 0 {
		t.Errorf("the tie between 2^20 and 2^24 is %v", v)
	}
	if v := product(8, 0x4c, 0xbc); v.Cmp(new(big.Int).Mul(big.NewInt(-9), power(-1, twice))) != 0 {
		t.Errorf("3 times -3/2 is %v", v)
	}
	for _, n := range widths() {
		for _, p := range patterns(n) {
			if v := value(n, p); v != nil && rounded(n, v, unit) != p {
				t.Fatalf("%#x of the width %d is rounded to %#x", p, n, rounded(n, v, unit))
			}
		}
	}
}

// edges are the patterns of a width round which something changes: Zero, NaR, both ends, 1 and its negative, the quarters of the row, each with its neighbours; and every run, bare, full and mixed.
func edges(n int) []uint64 {
	var l []uint64
	for _, p := range []uint64{0, nar(n), nar(n) / 2, nar(n) + nar(n)/2, nar(n) / 4, 0x5555555555555555, 0xaaaaaaaaaaaaaaaa} {
		l = append(l, folded(n, p-2), folded(n, p-1), folded(n, p), folded(n, p+1), folded(n, p+2))
	}
	next := row(uint64(n))
	for i := 2; i < n-2; i += max(1, n/16) {
		tail := next() & (1<<i - 1)
		for _, p := range []uint64{1 << i, 1<<i - 1, 1<<i | tail, nar(n) - 1<<i, nar(n) - 1<<i | tail} {
			l = append(l, p, folded(n, -p))
		}
	}
	return l
}

// patterns are all of the widths 8 and 16; of the wider ones the edges and mixed ones, with runs of every length.
func patterns(n int) []uint64 {
	if n > 16 {
		l := edges(n)
		next := row(7)
		for i := range 3000 {
			p := folded(n, next())
			shift := i % (n - 2)
			l = append(l, p, p>>shift, folded(n, -(p>>shift)), nar(n)-1-p>>(shift+1))
		}
		return l
	}
	l := make([]uint64, 1<<n)
	for i := range l {
		l[i] = uint64(i)
	}
	return l
}

// powers are the patterns of the powers of two of a width, by their scales.
func powers(n int) map[int]uint64 {
	l := map[int]uint64{}
	for s := 8 - 4*n; s <= 4*n-8; s++ {
		if p, ok := pattern(n, power(s, unit), unit); ok {
			l[s] = p
		}
	}
	return l
}

// ascending are patterns of Zero and above, each of a rank above that of the one ahead of it: all of the widths 8 and 16, and of the others rows of neighbours, far from one another, and those at both ends and near 1.
func ascending(n int) []uint64 {
	var l []uint64
	if n <= 16 {
		for p := range nar(n) {
			l = append(l, p)
		}
		return l
	}
	step := nar(n) / 512
	for p := uint64(0); p < nar(n); p += step {
		for i := range uint64(12) {
			l = append(l, p+i)
		}
	}
	for i := range uint64(12) {
		l = append(l, nar(n)-12+i)
	}
	return l
}
