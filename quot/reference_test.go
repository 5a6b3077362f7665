package quot_test

import (
	"fmt"
	"math"
	"math/big"
	"strconv"
	"strings"
	"testing"

	"vernier/api"
)

const (
	top      = math.MaxUint64
	one      = 1 << 63 // the Frac of a power of two
	farScale = 1 << 30 // the greatest scale of a sound Num
	unit     = -256    // values of patterns are told in units of 2^unit
)

// widths are the four, told anew: the tests don't ask the program for them.
func widths() []int { return []int{8, 16, 32, 64} }

// refusedWidths are numbers that are no width: those beside the widths, their negatives, and those of which only the lowest bits are a width.
func refusedWidths() []int {
	l := []int{0, 1, 2, 3, 4, 5, 6, 10, 12, 20, 24, 40, 48, 56, 60, 96, 128, 256, 1024,
		math.MaxInt, math.MinInt, math.MaxInt32, math.MinInt32}
	for _, n := range widths() {
		l = append(l, n-1, n+1, -n, -n-1, -n+1, n+1<<8, n+1<<16, n+1<<32, n+math.MinInt)
	}
	return l
}

func nar(n int) uint64 { return 1 << (n - 1) }

// unity is the pattern of 1.
func unity(n int) uint64 { return 1 << (n - 2) }

// folded is what is left of p, divided by 2^n.
func folded(n int, p uint64) uint64 { return p << (64 - n) >> (64 - n) }

// rank is a pattern as a signed integer.
func rank(n int, p uint64) int64 { return int64(p<<(64-n)) >> (64 - n) }

// sign is that of a pattern's rank: -1, 0 or 1.
func sign(n int, p uint64) int {
	r := rank(n, p)
	switch {
	case r < 0:
		return -1
	case r > 0:
		return 1
	}
	return 0
}

// dirty is a pattern with bits above its width (of 64 there are none), by a fixed rule.
func dirty(n int, p uint64) uint64 {
	above := (p+0x9e3779b97f4a7c15)*6364136223846793005 | 1<<32 | 1<<16 | 1<<8
	return folded(n, p) | above>>n<<n
}

// row answers words by a fixed rule, one behind the other.
func row(seed uint64) func() uint64 {
	return func() uint64 {
		seed = seed*6364136223846793005 + 1442695040888963407
		return seed ^ seed>>29
	}
}

// num is a Num that is a Real.
func num(scale int, frac uint64) api.Num {
	return api.Num{Kind: api.Real, Scale: scale, Frac: frac}
}

// negative is the negative of a Real.
func negative(x api.Num) api.Num {
	x.Neg = !x.Neg
	return x
}

// exact is an Exact that is a Real, of one word of digits.
func exact(scale int, hi uint64, rest bool) api.Exact {
	return api.Exact{Kind: api.Real, Scale: scale, Hi: hi, Rest: rest}
}

// power is 2^k in units of 2^in.
func power(k, in int) *big.Int { return new(big.Int).Lsh(big.NewInt(1), uint(k-in)) }

// stringOf is the string of the number digits (a row of noughts and ones, of which the first is 1) of the scale s.
func stringOf(s int, digits string) string {
	k := int(math.Floor(float64(s) / 4))
	run := strings.Repeat("0", max(-k, 0)) + "1"
	if k >= 0 {
		run = strings.Repeat("1", k+1) + "0"
	}
	return run + fmt.Sprintf("%02b", s-4*k) + digits[1:]
}

// rounded is Round n of v times 2^in, word by word as the document tells it; of nought it is 0.
func rounded(n int, v *big.Int, in int) uint64 {
	if v.Sign() == 0 {
		return 0
	}
	p, left := cut(n, new(big.Int).Abs(v).Text(2), in)
	if left == "1" && p%2 == 1 || len(left) > 1 && left[0] == '1' {
		p++
	}
	if v.Sign() < 0 {
		return folded(n, -p)
	}
	return p
}

// cut is the first part of the string of a number above 0, told by its digits, and what is left of it, without the noughts at its end; at both ends and beyond them nothing is left.
func cut(n int, digits string, in int) (uint64, string) {
	s := len(digits) - 1 + in
	if s >= 4*n-8 {
		return nar(n) - 1, ""
	}
	if s < 8-4*n || s == 8-4*n && strings.TrimRight(digits, "0") == "1" {
		return 1, ""
	}
	text := stringOf(s, digits+strings.Repeat("0", n))
	p, _ := strconv.ParseUint(text[:n-1], 2, 64)
	return p, strings.TrimRight(text[n-1:], "0")
}

// meaning is the value that a string tells, in units of 2^unit.
func meaning(text string) *big.Int {
	rest := strings.TrimLeft(text, text[:1])
	k := len(text) - len(rest) - 1
	if text[0] == '0' {
		k = -k - 1
	}
	rest = strings.TrimPrefix(rest, rest[:min(1, len(rest))]) + "00"
	e, _ := strconv.ParseUint(rest[:2], 2, 64)
	frac := strings.TrimSuffix(rest[2:], "00")
	v, _ := new(big.Int).SetString("1"+frac, 2)
	return v.Lsh(v, uint(4*k+int(e)-len(frac)-unit))
}

// value is a pattern's value in units of 2^unit; of NaR it is nil.
func value(n int, p uint64) *big.Int {
	p = folded(n, p)
	switch {
	case p == 0:
		return new(big.Int)
	case p == nar(n):
		return nil
	case p > nar(n):
		v := value(n, -p)
		return v.Neg(v)
	}
	return meaning(fmt.Sprintf("%0*b", n-1, p))
}

// pattern is the pattern whose value is v times 2^in, if there is one.
func pattern(n int, v *big.Int, in int) (uint64, bool) {
	p := rounded(n, v, in)
	w := value(n, p)
	return p, w.Lsh(w, uint(unit-in)).Cmp(v) == 0
}

// tie is what lies half way on the string from p's, of a p above Zero, to the one behind it, in units of 2^unit.
func tie(n int, p uint64) *big.Int { return meaning(fmt.Sprintf("%0*b1", n-1, p)) }

// deep is how many digits behind the point a quotient of the width n is reckoned to: of the least one that is many more than there is room for.
func deep(n int) int { return 10*n + 64 }

// ratio is x divided by y in units of 2^-deep(n), with its sign; if the digits don't end there, the last one is 1.
func ratio(n int, x, y *big.Int) *big.Int {
	v := new(big.Int).Lsh(new(big.Int).Abs(x), uint(deep(n)-1))
	v, left := v.QuoRem(v, new(big.Int).Abs(y), new(big.Int))
	v.Lsh(v, 1)
	if left.Sign() != 0 {
		v.SetBit(v, 0, 1)
	}
	if x.Sign()*y.Sign() < 0 {
		v.Neg(v)
	}
	return v
}

// quotient is what Div must answer, reckoned without bounds.
func quotient(n int, a, b uint64) uint64 {
	x, y := value(n, a), value(n, b)
	if x == nil || y == nil || y.Sign() == 0 {
		return nar(n)
	}
	return rounded(n, ratio(n, x, y), -deep(n))
}

// The tests' own reading, dividing and rounding, at what the document tells.
func TestTheReference(t *testing.T) {
	for p, want := range map[uint64]*big.Int{
		0x40: power(0, unit), 0x48: power(1, unit), 0x50: power(2, unit), 0x60: power(4, unit), 0x7f: power(24, unit), 0x01: power(-24, unit),
		0x7d: power(18, unit), 0x7e: power(20, unit), 0xc0: new(big.Int).Neg(power(0, unit)),
		0x44: new(big.Int).Mul(big.NewInt(3), power(-1, unit)), 0x6a: new(big.Int).Mul(big.NewInt(3), power(5, unit)),
	} {
		if v := value(8, p); v.Cmp(want) != 0 {
			t.Errorf("value(8, %#x) = %v; want %v", p, v, want)
		}
	}
	for k, want := range map[int]uint64{23: 0x7f, 22: 0x7e, 30: 0x7f, -40: 0x01, -24: 0x01, 0: 0x40} {
		if p := rounded(8, power(k, unit), unit); p != want {
			t.Errorf("Round 8 of 2^%d = %#x; want %#x", k, p, want)
		}
	}
	for sixteenths, want := range map[int64]uint64{17: 0x40, 19: 0x42, -19: 0xbe} {
		if p := rounded(8, big.NewInt(sixteenths), -4); p != want {
			t.Errorf("Round 8 of %d/16 = %#x; want %#x", sixteenths, p, want)
		}
	}
	if v := tie(8, 0x7e); v.Cmp(power(22, unit)) != 0 {
		t.Errorf("the tie between 2^20 and 2^24 is %v", v)
	}
	if v := ratio(8, big.NewInt(-12), big.NewInt(4)); v.Cmp(new(big.Int).Mul(big.NewInt(-3), power(0, -deep(8)))) != 0 {
		t.Errorf("-12 divided by 4 is %v", v)
	}
	for n, want := range map[int]uint64{8: 0x33, 16: 0x32ab} {
		if p := rounded(n, ratio(n, big.NewInt(1), big.NewInt(3)), -deep(n)); p != want {
			t.Errorf("Round %d of 1/3 = %#x; want %#x", n, p, want)
		}
	}
	for _, n := range widths() {
		for _, p := range patterns(n) {
			if v := value(n, p); v != nil && rounded(n, v, unit) != p {
				t.Fatalf("%#x of the width %d is rounded to %#x", p, n, rounded(n, v, unit))
			}
		}
	}
}

// edges are the patterns of a width round which something changes: Zero, NaR, both ends, 1 and its negative, the quarters of the row, each with its neighbours; and every run, bare, full and mixed.
func edges(n int) []uint64 {
	var l []uint64
	for _, p := range []uint64{0, nar(n), nar(n) / 2, nar(n) + nar(n)/2, nar(n) / 4, 0x5555555555555555, 0xaaaaaaaaaaaaaaaa} {
		l = append(l, folded(n, p-2), folded(n, p-1), folded(n, p), folded(n, p+1), folded(n, p+2))
	}
	next := row(uint64(n))
	for i := 2; i < n-2; i += max(1, n/16) {
		tail := next() & (1<<i - 1)
		for _, p := range []uint64{1 << i, 1<<i - 1, 1<<i | tail, nar(n) - 1<<i, nar(n) - 1<<i | tail} {
			l = append(l, p, folded(n, -p))
		}
	}
	return l
}

// patterns are all of the widths 8 and 16; of the wider ones the edges and mixed ones, with runs of every length.
func patterns(n int) []uint64 {
	if n > 16 {
		l := edges(n)
		next := row(7)
		for i := range 3000 {
			p := folded(n, next())
			shift := i % (n - 2)
			l = append(l, p, p>>shift, folded(n, -(p>>shift)), nar(n)-1-p>>(shift+1))
		}
		return l
	}
	l := make([]uint64, 1<<n)
	for i := range l {
		l[i] = uint64(i)
	}
	return l
}

// powers are the patterns of the powers of two of a width, by their scales.
func powers(n int) map[int]uint64 {
	l := map[int]uint64{}
	for s := 8 - 4*n; s <= 4*n-8; s++ {
		if p, ok := pattern(n, power(s, unit), unit); ok {
			l[s] = p
		}
	}
	return l
}

// pair is two patterns, as they are handed in: what is divided, and by what.
type pair struct{ a, b uint64 }

// pairs are all of the width 8; of the others the edges by one another, each pattern and an edge by one another, each by itself and by one beside it, by one with as long a run, by one of any; and those of which many quotients are ties.
func pairs(n int) []pair {
	var l []pair
	if n == 8 {
		for a := range uint64(256) {
			for b := range uint64(256) {
				l = append(l, pair{a, b})
			}
		}
		return l
	}
	e := edges(n)
	for _, a := range e {
		for _, b := range e {
			l = append(l, pair{a, b})
		}
	}
	next := row(uint64(n) + 1)
	for i, p := range patterns(n) {
		// A pattern turned at its end has nearly the same scale, so that the quotient is near 1.
		near, beside := p^next()>>(68-n+i%(n/2)), folded(n, p+1-uint64(i%2)*2)
		l = append(l, pair{p, e[i%len(e)]}, pair{e[i%len(e)], p}, pair{p, p}, pair{p, beside}, pair{p, near}, pair{p, folded(n, next())})
	}
	return append(append(l, byPowers(n)...), byOddOnes(n)...)
}

// byPowers are mixed patterns by powers of two and their neighbours, of which many quotients are ties, or near one.
func byPowers(n int) []pair {
	var l []pair
	next := row(uint64(n) + 2)
	p2 := powers(n)
	for s := 8 - 4*n; s <= 4*n-8; s++ {
		q, ok := p2[s]
		if !ok {
			continue
		}
		for i := range 40 {
			p := folded(n, next())
			if i%3 == 0 {
				p >>= i % (n / 2)
			}
			q := folded(n, q+uint64(i%5)/3-uint64(i%7)/6)
			l = append(l, pair{p, q}, pair{p, folded(n, -q)})
		}
	}
	return l
}

// byOddOnes are patterns by others that are no powers of two, where the quotient is a tie, and their neighbours by the same.
func byOddOnes(n int) []pair {
	var l []pair
	next := row(uint64(n) + 3)
	for i := range 60 * n {
		p := folded(n, next()) >> (2 + i%(n-3))
		if i%2 == 0 {
			p = nar(n) - 1 - p
		}
		if p == 0 || p == nar(n)-1 {
			continue
		}
		v := tie(n, p)
		m := big.NewInt(int64(3 + 2*(i%7)))
		// A dividend near 1 has room for the most digits.
		y := m.Mul(m, power(1-v.BitLen()-unit, unit))
		b, ok := pattern(n, y, unit)
		a, fits := pattern(n, v.Mul(v, y), 2*unit)
		if ok && fits {
			l = append(l, pair{a, b}, pair{a + 1, b}, pair{a - 1, b}, pair{a, folded(n, -b)})
		}
	}
	return l
}
