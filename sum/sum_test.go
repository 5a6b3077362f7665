package sum_test

import (
	"fmt"
	"math"
	"math/big"
	"strconv"
	"strings"
	"testing"

	"vernier/api"
	"vernier/sum"
)

const (
	top      = math.MaxUint64
	one      = 1 << 63 // the Frac of a power of two
	farScale = 1 << 30 // the greatest scale of a sound Num
	unit     = -512    // values of patterns are told in units of 2^unit
)

// widths are the four, told anew: the tests don't ask the program for them.
func widths() []int { return []int{8, 16, 32, 64} }

// refusedWidths are numbers that are no width: those beside the widths, their negatives, and those of which only the lowest bits are a width.
func refusedWidths() []int {
	l := []int{0, 1, 2, 3, 4, 5, 6, 10, 12, 20, 24, 40, 48, 56, 60, 96, 128, 256, 1024,
		math.MaxInt, math.MinInt, math.MaxInt32, math.MinInt32}
	for _, n := range widths() {
		l = append(l, n-1, n+1, -n, -n-1, -n+1, n+1<<8, n+1<<16, n+1<<32, n+math.MinInt)
	}
	return l
}

func nar(n int) uint64 { return 1 << (n - 1) }

// folded is what is left of p, divided by 2^n.
func folded(n int, p uint64) uint64 { return p << (64 - n) >> (64 - n) }

// rank is a pattern as a signed integer.
func rank(n int, p uint64) int64 { return int64(p<<(64-n)) >> (64 - n) }

// dirty is a pattern with bits above its width (of 64 there are none), by a fixed rule.
func dirty(n int, p uint64) uint64 {
	above := (p+0x9e3779b97f4a7c15)*6364136223846793005 | 1<<32 | 1<<16 | 1<<8
	return folded(n, p) | above>>n<<n
}

// row answers words by a fixed rule, one behind the other.
func row(seed uint64) func() uint64 {
	return func() uint64 {
		seed = seed*6364136223846793005 + 1442695040888963407
		return seed ^ seed>>29
	}
}

// num is a Num that is a Real.
func num(scale int, frac uint64) api.Num {
	return api.Num{Kind: api.Real, Scale: scale, Frac: frac}
}

// negative is the negative of a Real.
func negative(x api.Num) api.Num {
	x.Neg = !x.Neg
	return x
}

// exact is an Exact that is a Real.
func exact(scale int, hi, lo uint64, rest bool) api.Exact {
	return api.Exact{Kind: api.Real, Scale: scale, Hi: hi, Lo: lo, Rest: rest}
}

// turned is the negative of what Exact answers.
func turned(x api.Exact) api.Exact {
	if x.Kind == api.Real {
		x.Neg = !x.Neg
	}
	return x
}

// stringOf is the string of the number digits (a row of noughts and ones, of which the first is 1) of the scale s.
func stringOf(s int, digits string) string {
	k := int(math.Floor(float64(s) / 4))
	run := strings.Repeat("0", max(-k, 0)) + "1"
	if k >= 0 {
		run = strings.Repeat("1", k+1) + "0"
	}
	return run + fmt.Sprintf("%02b", s-4*k) + digits[1:]
}

// rounded is Round n of v times 2^unit, word by word as the document tells it; of nought it is 0.
func rounded(n int, v *big.Int) uint64 {
	if v.Sign() == 0 {
		return 0
	}
	p := roundedUp(n, new(big.Int).Abs(v).Text(2))
	if v.Sign() < 0 {
		return folded(n, -p)
	}
	return p
}

// roundedUp is rounded, of a number above 0, told by its digits.
func roundedUp(n int, digits string) uint64 {
	s := len(digits) - 1 + unit
	if s >= 4*n-8 {
		return nar(n) - 1
	}
	if s < 8-4*n || s == 8-4*n && strings.TrimRight(digits, "0") == "1" {
		return 1
	}
	text := stringOf(s, digits+strings.Repeat("0", n))
	p, _ := strconv.ParseUint(text[:n-1], 2, 64)
	left := strings.TrimRight(text[n-1:], "0")
	if left == "1" && p%2 == 1 || len(left) > 1 && left[0] == '1' {
		p++
	}
	return p
}

// value is a pattern's value in units of 2^unit, read off a text of its string; of NaR it is nil.
func value(n int, p uint64) *big.Int {
	p = folded(n, p)
	switch {
	case p == 0:
		return new(big.Int)
	case p == nar(n):
		return nil
	case p > nar(n):
		v := value(n, -p)
		return v.Neg(v)
	}
	text := fmt.Sprintf("%0*b", n-1, p)
	rest := strings.TrimLeft(text, text[:1])
	k := len(text) - len(rest) - 1
	if text[0] == '0' {
		k = -k - 1
	}
	rest = strings.TrimPrefix(rest, rest[:min(1, len(rest))]) + "00"
	e, _ := strconv.ParseUint(rest[:2], 2, 64)
	frac := strings.TrimSuffix(rest[2:], "00")
	v, _ := new(big.Int).SetString("1"+frac, 2)
	return v.Lsh(v, uint(4*k+int(e)-len(frac)-unit))
}

// The tests' own reading and rounding, at what the document tells of the width 8.
func TestTheReference(t *testing.T) {
	power := func(k int) *big.Int { return new(big.Int).Lsh(big.NewInt(1), uint(k-unit)) }
	for p, want := range map[uint64]*big.Int{
		0x40: power(0), 0x48: power(1), 0x50: power(2), 0x60: power(4), 0x7f: power(24), 0x01: power(-24), 0x7d: power(18), 0x7e: power(20),
		0x44: new(big.Int).Mul(big.NewInt(3), power(-1)), 0xc0: new(big.Int).Neg(power(0)), 0x6a: new(big.Int).Mul(big.NewInt(3), power(5)),
	} {
		if v := value(8, p); v.Cmp(want) != 0 {
			t.Errorf("value(8, %#x) = %v; want %v", p, v, want)
		}
	}
	for k, want := range map[int]uint64{23: 0x7f, 22: 0x7e, 30: 0x7f, -40: 0x01, -24: 0x01, 0: 0x40} {
		if p := rounded(8, power(k)); p != want {
			t.Errorf("Round 8 of 2^%d = %#x; want %#x", k, p, want)
		}
	}
	for sixteenths, want := range map[int64]uint64{17: 0x40, 19: 0x42, -19: 0xbe} {
		if p := rounded(8, new(big.Int).Mul(big.NewInt(sixteenths), power(-4))); p != want {
			t.Errorf("Round 8 of %d/16 = %#x; want %#x", sixteenths, p, want)
		}
	}
	for _, n := range widths() {
		for _, p := range patterns(n) {
			if v := value(n, p); v != nil && rounded(n, v) != p {
				t.Fatalf("%#x of the width %d is rounded to %#x", p, n, rounded(n, v))
			}
		}
	}
}

// edges are the patterns of a width round which something changes: Zero, NaR, both ends, 1 and its negative, the quarters of the row, each with its neighbours; and every run, bare, full and mixed.
func edges(n int) []uint64 {
	var l []uint64
	for _, p := range []uint64{0, nar(n), nar(n) / 2, nar(n) + nar(n)/2, nar(n) / 4, 0x5555555555555555, 0xaaaaaaaaaaaaaaaa} {
		l = append(l, folded(n, p-2), folded(n, p-1), folded(n, p), folded(n, p+1), folded(n, p+2))
	}
	next := row(uint64(n))
	for i := 2; i < n-2; i += max(1, n/16) {
		tail := next() & (1<<i - 1)
		for _, p := range []uint64{1 << i, 1<<i - 1, 1<<i | tail, nar(n) - 1<<i, nar(n) - 1<<i | tail} {
			l = append(l, p, folded(n, -p))
		}
	}
	return l
}

// patterns are all of the widths 8 and 16; of the wider ones the edges and mixed ones, with runs of every length.
func patterns(n int) []uint64 {
	if n > 16 {
		l := edges(n)
		next := row(7)
		for i := range 3000 {
			p := folded(n, next())
			shift := i % (n - 2)
			l = append(l, p, p>>shift, folded(n, -(p>>shift)), nar(n)-1-p>>(shift+1))
		}
		return l
	}
	l := make([]uint64, 1<<n)
	for i := range l {
		l[i] = uint64(i)
	}
	return l
}

// powers are the patterns of the powers of two of a width.
func powers(n int) []uint64 {
	var l []uint64
	for s := 8 - 4*n; s <= 4*n-8; s++ {
		v := new(big.Int).Lsh(big.NewInt(1), uint(s-unit))
		if p := rounded(n, v); value(n, p).Cmp(v) == 0 {
			l = append(l, p)
		}
	}
	return l
}

// pair is two patterns, as they are handed in.
type pair struct{ a, b uint64 }

// pairs are all of the width 8; of the others the edges with one another, each pattern with an edge, with one so near its negative that they nearly cancel, with one of about its scale and with one of any; and powers of two, where the ties come from, with mixed ones.
func pairs(n int) []pair {
	var l []pair
	if n == 8 {
		for a := range uint64(256) {
			for b := range uint64(256) {
				l = append(l, pair{a, b})
			}
		}
		return l
	}
	e := edges(n)
	for _, a := range e {
		for _, b := range e {
			l = append(l, pair{a, b})
		}
	}
	next := row(uint64(n) + 1)
	for i, p := range patterns(n) {
		near := folded(n, -p+next()>>58-32)
		about := folded(n, p^next()>>(66-n+i%(n/2)))
		l = append(l, pair{p, e[i%len(e)]}, pair{p, near}, pair{p, about}, pair{p, folded(n, next())})
	}
	return append(l, tied(n)...)
}

// tied are mixed patterns with powers of two and their neighbours, of which many sums are ties, or just beside one.
func tied(n int) []pair {
	var l []pair
	next := row(uint64(n) + 2)
	for _, q := range powers(n) {
		for i := range 40 {
			p := folded(n, next())
			if i%3 == 0 {
				p >>= i % (n / 2)
			}
			q := folded(n, q+uint64(i%5)/3-uint64(i%7)/6)
			l = append(l, pair{p, q}, pair{p, folded(n, -q)})
		}
	}
	return l
}

// wantAdd wants an answer of Add, in either order, with bits above the width too.
func wantAdd(t *testing.T, n int, a, b, want uint64) {
	t.Helper()
	for _, c := range []pair{{a, b}, {b, a}, {dirty(n, a), b}, {b, dirty(n, a)}} {
		if p, err := sum.Add(n, c.a, c.b); p != want || err != nil {
			t.Fatalf("P9.2: Add(%d, %#x, %#x) = %#x, %v; want %#x", n, c.a, c.b, p, err, want)
		}
	}
}

// wantSub wants an answer of Sub, with bits above the width too.
func wantSub(t *testing.T, n int, a, b, want uint64) {
	t.Helper()
	for _, c := range []pair{{a, b}, {dirty(n, a), b}, {a, dirty(n, b)}} {
		if p, err := sum.Sub(n, c.a, c.b); p != want || err != nil {
			t.Fatalf("P9.3: Sub(%d, %#x, %#x) = %#x, %v; want %#x", n, c.a, c.b, p, err, want)
		}
	}
}

// P9.2, P9.3: the chapter's examples and the whole's, and more by hand.
func TestExamples(t *testing.T) {
	wantAdd(t, 8, 0x40, 0x40, 0x48)
	wantAdd(t, 8, 0x40, 0xc0, 0)
	wantAdd(t, 8, 0x40, 0x80, 0x80)
	wantAdd(t, 8, 0x7f, 0x7f, 0x7f)
	wantAdd(t, 8, 0x81, 0x81, 0x81)
	wantAdd(t, 8, 0x40, 0x01, 0x40)
	wantAdd(t, 8, 0x7f, 0x81, 0)
	wantAdd(t, 8, 0x7f, 0xff, 0x7f)
	wantAdd(t, 8, 0x44, 0x44, 0x4c)
	wantAdd(t, 8, 0x44, 0xc0, 0x38)
	wantAdd(t, 8, 0x01, 0x01, 0x01) // 2^-23: what is left behind 0000001 is less than 1/2
	wantAdd(t, 8, 0x7e, 0x7e, 0x7e) // 2^21: likewise, behind 1111110
	wantAdd(t, 8, 0x80, 0x80, 0x80)
	wantAdd(t, 16, 0x4000, 0x0001, 0x4000)
	wantAdd(t, 16, 0x8000, 0x7fff, 0x8000)
	wantAdd(t, 32, 1<<30, 1<<30, 9<<27)
	wantAdd(t, 64, 1<<62, 1<<62, 9<<59)
	wantAdd(t, 64, nar(64)-1, 1, nar(64)-1)
	wantSub(t, 8, 0x01, 0x7f, 0x81)
	wantSub(t, 8, 0x7f, 0x01, 0x7f)
	wantSub(t, 8, 0x40, 0x40, 0)
	wantSub(t, 8, 0x80, 0x80, 0x80)
	wantSub(t, 8, 0x80, 0x40, 0x80)
	wantSub(t, 8, 0x40, 0x80, 0x80)
	wantSub(t, 8, 0, 0x40, 0xc0)
	wantSub(t, 8, 0, 0xff, 0x01)
	wantSub(t, 8, 0x7f, 0x81, 0x7f)
	wantSub(t, 16, 0x4001, 0x4000, 0x0a00)
	wantSub(t, 64, 1<<62+1, 1<<62, value64(-59))
}

// value64 is the pattern of 2^k in the width 64.
func value64(k int) uint64 {
	return rounded(64, new(big.Int).Lsh(big.NewInt(1), uint(k-unit)))
}

// P9.2, P9.3, T1: against the sum without bounds, rounded as a text: NaR, Zero, both ends, sums that cancel, nearly cancel, or are ties.
func TestAddAndSubAgainstNumbersWithoutAnEnd(t *testing.T) {
	for _, n := range widths() {
		for _, c := range pairs(n) {
			x, y := value(n, c.a), value(n, c.b)
			if x == nil || y == nil {
				wantAdd(t, n, c.a, c.b, nar(n))
				wantSub(t, n, c.a, c.b, nar(n))
				continue
			}
			wantAdd(t, n, c.a, c.b, rounded(n, new(big.Int).Add(x, y)))
			wantSub(t, n, c.a, c.b, rounded(n, new(big.Int).Sub(x, y)))
		}
	}
}

// P9.2, P9.3: NaR in each place and in both, with every edge.
func TestNaR(t *testing.T) {
	for _, n := range widths() {
		for _, p := range edges(n) {
			wantAdd(t, n, nar(n), p, nar(n))
			wantSub(t, n, nar(n), p, nar(n))
			wantSub(t, n, p, nar(n), nar(n))
		}
	}
}

// P9.2: at the ties of each width, where what is added is just half of the last bit: to the even one; with the neighbours of that half it is no tie.
func TestAddAtTies(t *testing.T) {
	for _, c := range []struct {
		n             int
		a, half, want uint64
	}{
		{8, 0x40, 0x20, 0x40}, // 1 and 1/16: 1
		{8, 0x41, 0x20, 0x42}, // 9/8 and 1/16: 5/4
		{8, 0x7c, 0x7c, 0x7c}, // 2^17: of 2^16 and 2^18, as near on the string, 2^16
		{8, 0x42, 0x20, 0x42}, // 5/4 and 1/16: 5/4
		{8, 0x47, 0x20, 0x48}, // 15/8 and 1/16: 2
		{16, 0x4000, 0x0800, 0x4000},
		{16, 0x4001, 0x0800, 0x4002},
		{16, 0x47ff, 0x0800, 0x4800},
		{32, 1 << 30, 0x00800000, 1 << 30},
		{32, 1<<30 + 1, 0x00800000, 1<<30 + 2},
		{64, 1 << 62, value64(-60), 1 << 62},
		{64, 1<<62 + 1, value64(-60), 1<<62 + 2},
	} {
		wantAdd(t, c.n, c.a, c.half, c.want)
		wantAdd(t, c.n, folded(c.n, -c.a), folded(c.n, -c.half), folded(c.n, -c.want))
		wantSub(t, c.n, c.a, folded(c.n, -c.half), c.want)
		if c.a != c.half {
			wantAdd(t, c.n, c.a, c.half-1, c.a)
			wantAdd(t, c.n, c.a, c.half+1, c.a+1)
		}
	}
}

// P9.2, P9.3, R3: a width that is none, with whatever patterns.
func TestWidthsAreRefused(t *testing.T) {
	for _, n := range refusedWidths() {
		for _, c := range []pair{{0, 0}, {0x40, 0x40}, {0x40, 0xc0}, {0x80, 0x80}, {nar(64), 0}, {0, nar(64)}, {top, top}} {
			if p, err := sum.Add(n, c.a, c.b); p != 0 || err != api.ErrWidth {
				t.Fatalf("R3: Add(%d, %#x, %#x) = %#x, %v; want ErrWidth", n, c.a, c.b, p, err)
			}
			if p, err := sum.Sub(n, c.a, c.b); p != 0 || err != api.ErrWidth {
				t.Fatalf("R3: Sub(%d, %#x, %#x) = %#x, %v; want ErrWidth", n, c.a, c.b, p, err)
			}
		}
	}
}

// wantExact wants an answer of Exact, in either order, and of the negatives its negative.
func wantExact(t *testing.T, x, y api.Num, want api.Exact) {
	t.Helper()
	for _, c := range [][2]api.Num{{x, y}, {y, x}} {
		if s, err := sum.Exact(c[0], c[1]); s != want || err != nil {
			t.Fatalf("P9.1: Exact(%+v, %+v) = %+v, %v; want %+v", c[0], c[1], s, err, want)
		}
		if x.Kind != api.Real || y.Kind != api.Real {
			continue
		}
		if s, err := sum.Exact(negative(c[0]), negative(c[1])); s != turned(want) || err != nil {
			t.Fatalf("P9.1: of the negatives: Exact(%+v, %+v) = %+v, %v; want %+v", c[0], c[1], s, err, turned(want))
		}
	}
}

// P9.1: the chapter's examples, and more by hand.
func TestExactExamples(t *testing.T) {
	for _, c := range []struct {
		x, y api.Num
		want api.Exact
	}{
		{num(0, one), num(-200, one), exact(0, one, 0, true)},
		{num(0, one), negative(num(-200, one)), exact(-1, top, top, true)},
		{num(0, one), num(0, one), exact(1, one, 0, false)},
		{num(0, one), negative(num(0, one)), api.Exact{Kind: api.Zero}},
		{num(0, top), num(0, top), exact(1, top, 0, false)},
		{num(0, top), num(0, top-1), exact(1, top-1, one, false)},
		{num(0, one+1), negative(num(0, one)), exact(-63, one, 0, false)},
		{num(0, top), negative(num(0, top-1)), exact(-63, one, 0, false)},
		{num(5, one), negative(num(4, top)), exact(-59, one, 0, false)},
		{num(0, 3<<62), negative(num(1, one)), turned(exact(-1, one, 0, false))},
		{num(0, one), num(-127, one), exact(0, one, 1, false)},
		{num(0, one), num(-128, one), exact(0, one, 0, true)},
		{num(0, one), num(-128, top), exact(0, one, 0, true)},
		{num(0, one), num(-127, top), exact(0, one, 1, true)},
		{num(0, one), num(-127, 3<<62), exact(0, one, 1, true)},
		{num(0, one), num(-65, top), exact(0, one, top>>1, true)},
		{num(0, one), num(-65, top-1), exact(0, one, top>>1, false)},
		{num(0, one), negative(num(-128, one)), exact(-1, top, top, false)},
		{num(0, one), negative(num(-129, one)), exact(-1, top, top, true)},
		{num(0, one), negative(num(-128, top)), exact(-1, top, top-1, true)},
		{num(0, one), negative(num(-127, one)), exact(-1, top, top-1, false)},
		{num(0, one+1), negative(num(-127, one)), exact(0, one, top, false)},
		{num(0, one+1), negative(num(-128, one)), exact(0, one, top, true)},
		{num(0, top), num(-64, one), exact(0, top, one, false)},
		{num(0, top), num(-63, one), exact(1, one, 0, false)},
		{num(0, top), num(-64, top), exact(0, top, top, false)},
		{num(0, top), num(-63, top), exact(1, one, one-1, false)},
		{num(0, one+1), negative(num(-63, one)), exact(0, one, 0, false)},
		{num(-7, one), negative(num(-8, one)), exact(-8, one, 0, false)},
	} {
		wantExact(t, c.x, c.y, c.want)
	}
}

// summed is what Exact must answer of two reals whose scales aren't far apart, reckoned without bounds.
func summed(x, y api.Num) api.Exact {
	base := min(x.Scale, y.Scale)
	v := new(big.Int)
	for _, z := range []api.Num{x, y} {
		w := new(big.Int).SetUint64(z.Frac)
		w.Lsh(w, uint(z.Scale-base))
		if z.Neg {
			w.Neg(w)
		}
		v.Add(v, w)
	}
	if v.Sign() == 0 {
		return api.Exact{Kind: api.Zero}
	}
	digits := new(big.Int).Abs(v).Text(2)
	text := digits + strings.Repeat("0", 128)
	hi, _ := strconv.ParseUint(text[:64], 2, 64)
	lo, _ := strconv.ParseUint(text[64:128], 2, 64)
	s := exact(len(digits)-1+base-63, hi, lo, strings.Contains(text[128:], "1"))
	s.Neg = v.Sign() < 0
	return s
}

// fracs are first words of numbers: powers of two, full ones, single bits at both ends, mixed ones.
func fracs() []uint64 {
	l := []uint64{one, one + 1, one + 2, 3 << 62, 5 << 61, 0xaaaaaaaaaaaaaaaa, top, top - 1, top - 1<<32, one | 1<<32, one | 1<<31, one | top>>33}
	next := row(3)
	for range 3 {
		l = append(l, next()|one)
	}
	return l
}

// P9.1: every distance of the scales up to where nothing changes any more, at several places of the row of scales, with all signs: what is carried, borrowed, lost, and where the first digits stand.
func TestExactAtEveryDistance(t *testing.T) {
	for d := range 400 {
		for i, f := range fracs() {
			for j, g := range fracs() {
				scale := []int{0, -1, 7, farScale, d - farScale, -248, 300 + d}[(i+j)%7]
				x, y := num(scale, f), num(scale-d, g)
				wantExact(t, x, y, summed(x, y))
				wantExact(t, x, negative(y), summed(x, negative(y)))
			}
		}
	}
}

// P9.1: single bits of either term, at the distances where they meet, touch, and part.
func TestExactOfSingleBits(t *testing.T) {
	for _, d := range []int{0, 1, 2, 3, 31, 32, 62, 63, 64, 65, 66, 126, 127, 128, 129, 130, 189, 190, 191, 192, 193, 194} {
		for i := range 63 {
			for j := range 63 {
				x, y := num(3, one|1<<i), num(3-d, one|1<<j)
				wantExact(t, x, y, summed(x, y))
				wantExact(t, x, negative(y), summed(x, negative(y)))
				y.Frac = -(1 << j)
				wantExact(t, x, negative(y), summed(x, negative(y)))
				x.Frac = -(1 << i)
				wantExact(t, x, negative(y), summed(x, negative(y)))
			}
		}
	}
}

// P9.1: terms that nearly cancel: the difference is a few of the last bits, with the scales the same and one apart.
func TestExactOfTermsThatNearlyCancel(t *testing.T) {
	next := row(5)
	for _, scale := range []int{0, 1, -24, 248, farScale, 1 - farScale} {
		for k := range 63 {
			for range 8 {
				f := next() | one
				near := (f ^ 1<<k) ^ next()>>(64-k)
				x, y := num(scale, f), negative(num(scale, near))
				wantExact(t, x, y, summed(x, y))
				x, y = num(scale, one|f>>(63-k)), negative(num(scale-1, -(1<<k)))
				wantExact(t, x, y, summed(x, y))
			}
		}
	}
}

// P9.1: a real and its negative, over all scales.
func TestExactOfANumberAndItsNegative(t *testing.T) {
	for _, scale := range []int{0, 1, -1, 24, -24, 248, -248, 1 << 20, -1 << 20, farScale - 1, farScale, 1 - farScale, -farScale} {
		for _, f := range fracs() {
			wantExact(t, num(scale, f), negative(num(scale, f)), api.Exact{Kind: api.Zero})
		}
	}
}

// farApart is what Exact must answer of a real and a real that is so much nearer to 0 that none of its digits is told: the first one's digits, or, with another sign, those just below.
func farApart(x, y api.Num) api.Exact {
	s := exact(x.Scale, x.Frac, 0, true)
	switch {
	case x.Neg == y.Neg:
	case x.Frac == one:
		s = exact(x.Scale-1, top, top, true)
	default:
		s = exact(x.Scale, x.Frac-1, top, true)
	}
	s.Neg = x.Neg
	return s
}

// P9.1: scales far apart, up to the bounds of what is sound.
func TestExactOfScalesFarApart(t *testing.T) {
	distances := []int{400, 1023, 1024, 1 << 15, 1<<16 - 1, 1 << 16, 1<<16 + 64}
	for _, d := range distances[:4] {
		for _, f := range fracs() {
			x, y := num(d/2, f), num(d/2-d, f)
			if farApart(x, y) != summed(x, y) || farApart(x, negative(y)) != summed(x, negative(y)) {
				t.Fatalf("the tests' own numbers differ, %d apart, of %#x", d, f)
			}
		}
	}
	for k := 17; k <= 31; k++ {
		distances = append(distances, 1<<k-1, 1<<k, min(1<<k+1, 2*farScale), min(1<<k+64, 2*farScale), min(1<<k+128, 2*farScale))
	}
	for _, d := range distances {
		for _, f := range fracs() {
			for _, g := range []uint64{one, one + 1, f, top} {
				for _, scale := range []int{farScale, d - farScale, d / 2} {
					x, y := num(scale, f), num(scale-d, g)
					wantExact(t, x, y, farApart(x, y))
					wantExact(t, x, negative(y), farApart(x, negative(y)))
				}
			}
		}
	}
}

// P9.1: both terms at one bound of the scales: the sum's own lies beyond it, and is told all the same.
func TestExactAtTheBounds(t *testing.T) {
	wantExact(t, num(farScale, top), num(farScale, top), exact(farScale+1, top, 0, false))
	wantExact(t, num(farScale, one), num(farScale, one), exact(farScale+1, one, 0, false))
	wantExact(t, num(-farScale, one), num(-farScale, one), exact(1-farScale, one, 0, false))
	wantExact(t, num(-farScale, one+1), negative(num(-farScale, one)), exact(-farScale-63, one, 0, false))
	wantExact(t, num(1-farScale, one), negative(num(-farScale, top)), exact(-farScale-63, one, 0, false))
	wantExact(t, num(farScale, one), num(-farScale, one), exact(farScale, one, 0, true))
	wantExact(t, num(farScale, one), negative(num(-farScale, top)), exact(farScale-1, top, top, true))
	wantExact(t, num(-farScale, one), negative(num(farScale, top)), turned(exact(farScale, top-1, top, true)))
}

// P9.1: Zero and NaR, with one another and with reals.
func TestExactOfZeroAndNaR(t *testing.T) {
	zero, none := api.Num{Kind: api.Zero}, api.Num{Kind: api.NaR}
	wantExact(t, zero, zero, api.Exact{Kind: api.Zero})
	wantExact(t, zero, none, api.Exact{Kind: api.NaR})
	wantExact(t, none, none, api.Exact{Kind: api.NaR})
	for _, scale := range []int{0, 5, -5, farScale, -farScale} {
		for _, f := range fracs() {
			x := num(scale, f)
			wantExact(t, x, zero, exact(scale, f, 0, false))
			wantExact(t, negative(x), zero, turned(exact(scale, f, 0, false)))
			wantExact(t, x, none, api.Exact{Kind: api.NaR})
			wantExact(t, negative(x), none, api.Exact{Kind: api.NaR})
		}
	}
}

// unsound are Nums that aren't formed as they must be.
func unsound() []api.Num {
	l := []api.Num{
		{Kind: -1}, {Kind: 3}, {Kind: 4}, {Kind: 257}, {Kind: math.MaxInt}, {Kind: math.MinInt},
		{Kind: 1<<32 + api.Real, Frac: one}, {Kind: 3, Frac: one}, {Kind: -1, Frac: one}, {Kind: api.Real}, {Kind: api.Real, Neg: true},
	}
	for _, kind := range []int{api.Zero, api.NaR} {
		l = append(l, api.Num{Kind: kind, Neg: true}, api.Num{Kind: kind, Scale: 3}, api.Num{Kind: kind, Scale: -1}, api.Num{Kind: kind, Frac: 1},
			api.Num{Kind: kind, Frac: one}, api.Num{Kind: kind, Neg: true, Scale: 1, Frac: one})
	}
	for _, frac := range []uint64{1, 2, 1 << 62, one - 1} {
		l = append(l, num(0, frac), negative(num(5, frac)))
	}
	for _, scale := range []int{farScale + 1, -farScale - 1, 1 << 31, -1 << 31, 1 << 32, -1 << 32, 1 << 40, -1 << 40, math.MaxInt, math.MinInt, math.MinInt + 1} {
		l = append(l, num(scale, one), negative(num(scale, top)))
	}
	return l
}

// P9.1, R6: a Num that isn't sound is refused in either place, ahead of what NaR and Zero answer.
func TestExactRefusesWhatIsNotSound(t *testing.T) {
	others := append(unsound(), api.Num{Kind: api.Zero}, api.Num{Kind: api.NaR}, num(0, one), negative(num(3, top)), num(farScale, one), num(-farScale, one))
	for _, x := range unsound() {
		for _, y := range others {
			for _, c := range [][2]api.Num{{x, y}, {y, x}} {
				if s, err := sum.Exact(c[0], c[1]); s != (api.Exact{}) || err != api.ErrArg {
					t.Fatalf("P9.1: Exact(%+v, %+v) = %+v, %v; want ErrArg", c[0], c[1], s, err)
				}
			}
		}
	}
}

// P9.4: either order, Zero added, a number less itself, and two's complements.
func TestWhatFollows(t *testing.T) {
	for _, n := range widths() {
		for _, c := range pairs(n) {
			s, err := sum.Add(n, c.a, c.b)
			if u, again := sum.Add(n, c.b, c.a); u != s || err != nil || again != nil {
				t.Fatalf("P9.4: Add(%d, %#x, %#x) = %#x, %v, in the other order %#x, %v", n, c.a, c.b, s, err, u, again)
			}
			u, err := sum.Add(n, -c.a, -c.b)
			if u != folded(n, -s) || err != nil {
				t.Fatalf("P9.4: Add(%d, %#x, %#x) = %#x, of the two's complements %#x, %v", n, c.a, c.b, s, u, err)
			}
		}
		for _, a := range patterns(n) {
			zero := uint64(0)
			if a == nar(n) {
				zero = nar(n)
			}
			wantAdd(t, n, a, 0, a)
			wantSub(t, n, a, 0, a)
			wantSub(t, n, a, a, zero)
			wantSub(t, n, a, dirty(n, a), zero)
		}
	}
}

// ascending are patterns that are no NaR, each of a rank above that of the one ahead of it: all of the width 8, and of the others rows of neighbours, far from one another.
func ascending(n int) []uint64 {
	var l []uint64
	if n == 8 {
		for r := int64(-127); r <= 127; r++ {
			l = append(l, folded(n, uint64(r)))
		}
		return l
	}
	limit := int64(nar(n) - 1)
	step := limit / 150
	for r := -limit; r <= limit-8; r += step {
		for i := range int64(8) {
			l = append(l, folded(n, uint64(r+i)))
		}
		if r > limit-step {
			break
		}
	}
	return append(l, nar(n)-1)
}

// P9.4, T2: where the one term is the same, the sums are in the other ones' order.
func TestOrder(t *testing.T) {
	for _, n := range widths() {
		l := ascending(n)
		for _, a := range append(edges(n), l[:60]...) {
			if a == nar(n) {
				continue
			}
			last := int64(math.MinInt64)
			for _, b := range l {
				s, err := sum.Add(n, a, b)
				if r := rank(n, s); r < last || s == nar(n) || err != nil {
					t.Fatalf("P9.4: Add(%d, %#x, %#x) = %#x, %v, of the rank %d, behind the rank %d", n, a, b, s, err, r, last)
				}
				last = rank(n, s)
			}
		}
	}
}
