package prod_test

import (
	"fmt"
	"math"
	"math/big"
	"strconv"
	"strings"
	"testing"

	"vernier/api"
	"vernier/prod"
)

const (
	top      = math.MaxUint64
	one      = 1 << 63 // the Frac of a power of two
	farScale = 1 << 30 // the greatest scale of a sound Num
	unit     = -256    // values of patterns are told in units of 2^unit, products of two of them in units of 2^(2 unit)
	maxPower = 1024    // the greatest k of Power
)

// widths are the four, told anew: the tests don't ask the program for them.
func widths() []int { return []int{8, 16, 32, 64} }

// refusedWidths are numbers that are no width: those beside the widths, their negatives, and those of which only the lowest bits are a width.
func refusedWidths() []int {
	l := []int{0, 1, 2, 3, 4, 5, 6, 10, 12, 20, 24, 40, 48, 56, 60, 96, 128, 256, 1024,
		math.MaxInt, math.MinInt, math.MaxInt32, math.MinInt32}
	for _, n := range widths() {
		l = append(l, n-1, n+1, -n, -n-1, -n+1, n+1<<8, n+1<<16, n+1<<32, n+math.MinInt)
	}
	return l
}

func nar(n int) uint64 { return 1 << (n - 1) }

// unity is the pattern of 1.
func unity(n int) uint64 { return 1 << (n - 2) }

// folded is what is left of p, divided by 2^n.
func folded(n int, p uint64) uint64 { return p << (64 - n) >> (64 - n) }

// rank is a pattern as a signed integer.
func rank(n int, p uint64) int64 { return int64(p<<(64-n)) >> (64 - n) }

// dirty is a pattern with bits above its width (of 64 there are none), by a fixed rule.
func dirty(n int, p uint64) uint64 {
	above := (p+0x9e3779b97f4a7c15)*6364136223846793005 | 1<<32 | 1<<16 | 1<<8
	return folded(n, p) | above>>n<<n
}

// row answers words by a fixed rule, one behind the other.
func row(seed uint64) func() uint64 {
	return func() uint64 {
		seed = seed*6364136223846793005 + 1442695040888963407
		return seed ^ seed>>29
	}
}

// num is a Num that is a Real.
func num(scale int, frac uint64) api.Num {
	return api.Num{Kind: api.Real, Scale: scale, Frac: frac}
}

// negative is the negative of a Real.
func negative(x api.Num) api.Num {
	x.Neg = !x.Neg
	return x
}

// exact is an Exact that is a Real, without a rest.
func exact(scale int, hi, lo uint64) api.Exact {
	return api.Exact{Kind: api.Real, Scale: scale, Hi: hi, Lo: lo}
}

// power is 2^k in units of 2^in.
func power(k, in int) *big.Int { return new(big.Int).Lsh(big.NewInt(1), uint(k-in)) }

// stringOf is the string of the number digits (a row of noughts and ones, of which the first is 1) of the scale s.
func stringOf(s int, digits string) string {
	k := int(math.Floor(float64(s) / 4))
	run := strings.Repeat("0", max(-k, 0)) + "1"
	if k >= 0 {
		run = strings.Repeat("1", k+1) + "0"
	}
	return run + fmt.Sprintf("%02b", s-4*k) + digits[1:]
}

// rounded is Round n of v times 2^in, word by word as the document tells it; of nought it is 0.
func rounded(n int, v *big.Int, in int) uint64 {
	if v.Sign() == 0 {
		return 0
	}
	p, left := cut(n, new(big.Int).Abs(v).Text(2), in)
	if left == "1" && p%2 == 1 || len(left) > 1 && left[0] == '1' {
		p++
	}
	if v.Sign() < 0 {
		return folded(n, -p)
	}
	return p
}

// cut is the first part of the string of a number above 0, told by its digits, and what is left of it, without the noughts at its end; at both ends and beyond them nothing is left.
func cut(n int, digits string, in int) (uint64, string) {
	s := len(digits) - 1 + in
	if s >= 4*n-8 {
		return nar(n) - 1, ""
	}
	if s < 8-4*n || s == 8-4*n && strings.TrimRight(digits, "0") == "1" {
		return 1, ""
	}
	text := stringOf(s, digits+strings.Repeat("0", n))
	p, _ := strconv.ParseUint(text[:n-1], 2, 64)
	return p, strings.TrimRight(text[n-1:], "0")
}

// value is a pattern's value in units of 2^unit, read off a text of its string; of NaR it is nil.
func value(n int, p uint64) *big.Int {
	p = folded(n, p)
	switch {
	case p == 0:
		return new(big.Int)
	case p == nar(n):
		return nil
	case p > nar(n):
		v := value(n, -p)
		return v.Neg(v)
	}
	text := fmt.Sprintf("%0*b", n-1, p)
	rest := strings.TrimLeft(text, text[:1])
	k := len(text) - len(rest) - 1
	if text[0] == '0' {
		k = -k - 1
	}
	rest = strings.TrimPrefix(rest, rest[:min(1, len(rest))]) + "00"
	e, _ := strconv.ParseUint(rest[:2], 2, 64)
	frac := strings.TrimSuffix(rest[2:], "00")
	v, _ := new(big.Int).SetString("1"+frac, 2)
	return v.Lsh(v, uint(4*k+int(e)-len(frac)-unit))
}

// product is what Mul must answer, reckoned without bounds.
func product(n int, a, b uint64) uint64 {
	x, y := value(n, a), value(n, b)
	if x == nil || y == nil {
		return nar(n)
	}
	return rounded(n, x.Mul(x, y), 2*unit)
}

// The tests' own reading and rounding, at what the document tells of the width 8.
func TestTheReference(t *testing.T) {
	for p, want := range map[uint64]*big.Int{
		0x40: power(0, unit), 0x48: power(1, unit), 0x50: power(2, unit), 0x60: power(4, unit), 0x7f: power(24, unit), 0x01: power(-24, unit),
		0x7d: power(18, unit), 0x7e: power(20, unit), 0xc0: new(big.Int).Neg(power(0, unit)),
		0x44: new(big.Int).Mul(big.NewInt(3), power(-1, unit)), 0x6a: new(big.Int).Mul(big.NewInt(3), power(5, unit)),
	} {
		if v := value(8, p); v.Cmp(want) != 0 {
			t.Errorf("value(8, %#x) = %v; want %v", p, v, want)
		}
	}
	for k, want := range map[int]uint64{23: 0x7f, 22: 0x7e, 30: 0x7f, -40: 0x01, -24: 0x01, 0: 0x40} {
		if p := rounded(8, power(k, unit), unit); p != want {
			t.Errorf("Round 8 of 2^%d = %#x; want %#x", k, p, want)
		}
	}
	for sixteenths, want := range map[int64]uint64{17: 0x40, 19: 0x42, -19: 0xbe} {
		if p := rounded(8, big.NewInt(sixteenths), -4); p != want {
			t.Errorf("Round 8 of %d/16 = %#x; want %#x", sixteenths, p, want)
		}
	}
	for _, n := range widths() {
		for _, p := range patterns(n) {
			if v := value(n, p); v != nil && rounded(n, v, unit) != p {
				t.Fatalf("%#x of the width %d is rounded to %#x", p, n, rounded(n, v, unit))
			}
		}
	}
}

// edges are the patterns of a width round which something changes: Zero, NaR, both ends, 1 and its negative, the quarters of the row, each with its neighbours; and every run, bare, full and mixed.
func edges(n int) []uint64 {
	var l []uint64
	for _, p := range []uint64{0, nar(n), nar(n) / 2, nar(n) + nar(n)/2, nar(n) / 4, 0x5555555555555555, 0xaaaaaaaaaaaaaaaa} {
		l = append(l, folded(n, p-2), folded(n, p-1), folded(n, p), folded(n, p+1), folded(n, p+2))
	}
	next := row(uint64(n))
	for i := 2; i < n-2; i += max(1, n/16) {
		tail := next() & (1<<i - 1)
		for _, p := range []uint64{1 << i, 1<<i - 1, 1<<i | tail, nar(n) - 1<<i, nar(n) - 1<<i | tail} {
			l = append(l, p, folded(n, -p))
		}
	}
	return l
}

// patterns are all of the widths 8 and 16; of the wider ones the edges and mixed ones, with runs of every length.
func patterns(n int) []uint64 {
	if n > 16 {
		l := edges(n)
		next := row(7)
		for i := range 3000 {
			p := folded(n, next())
			shift := i % (n - 2)
			l = append(l, p, p>>shift, folded(n, -(p>>shift)), nar(n)-1-p>>(shift+1))
		}
		return l
	}
	l := make([]uint64, 1<<n)
	for i := range l {
		l[i] = uint64(i)
	}
	return l
}

// powers are the patterns of the powers of two of a width, by their scales.
func powers(n int) map[int]uint64 {
	l := map[int]uint64{}
	for s := 8 - 4*n; s <= 4*n-8; s++ {
		v := power(s, unit)
		if p := rounded(n, v, unit); value(n, p).Cmp(v) == 0 {
			l[s] = p
		}
	}
	return l
}

// pair is two patterns, as they are handed in.
type pair struct{ a, b uint64 }

// pairs are all of the width 8; of the others the edges with one another, each pattern with an edge, with itself, with one so that the product is near 1, and with one of any; and powers of two, where the ties come from, with mixed ones.
func pairs(n int) []pair {
	var l []pair
	if n == 8 {
		for a := range uint64(256) {
			for b := range uint64(256) {
				l = append(l, pair{a, b})
			}
		}
		return l
	}
	e := edges(n)
	for _, a := range e {
		for _, b := range e {
			l = append(l, pair{a, b})
		}
	}
	next := row(uint64(n) + 1)
	for i, p := range patterns(n) {
		// With its lower bits turned a pattern's run is as long, but of the other bits.
		other := folded(n, nar(n)-p+next()>>60)
		l = append(l, pair{p, e[i%len(e)]}, pair{p, p}, pair{p, other}, pair{p, folded(n, next())})
	}
	return append(l, tied(n)...)
}

// tied are mixed patterns with powers of two and their neighbours, of which many products are ties, or just beside one.
func tied(n int) []pair {
	var l []pair
	next := row(uint64(n) + 2)
	p2 := powers(n)
	for s := 8 - 4*n; s <= 4*n-8; s++ {
		q, ok := p2[s]
		if !ok {
			continue
		}
		for i := range 40 {
			p := folded(n, next())
			if i%3 == 0 {
				p >>= i % (n / 2)
			}
			q := folded(n, q+uint64(i%5)/3-uint64(i%7)/6)
			l = append(l, pair{p, q}, pair{p, folded(n, -q)})
		}
	}
	return l
}

// wantMul wants an answer of Mul, in either order, with bits above the width too.
func wantMul(t *testing.T, n int, a, b, want uint64) {
	t.Helper()
	for _, c := range []pair{{a, b}, {b, a}, {dirty(n, a), b}, {b, dirty(n, a)}} {
		if p, err := prod.Mul(n, c.a, c.b); p != want || err != nil {
			t.Fatalf("P10.2: Mul(%d, %#x, %#x) = %#x, %v; want %#x", n, c.a, c.b, p, err, want)
		}
	}
}

// wantSigned wants an answer of Mul of two reals, and those that follow with the signs turned.
func wantSigned(t *testing.T, n int, a, b, want uint64) {
	t.Helper()
	wantMul(t, n, a, b, want)
	wantMul(t, n, -a, b, folded(n, -want))
	wantMul(t, n, a, -b, folded(n, -want))
	wantMul(t, n, -a, -b, want)
}

// P10.2: the chapter's examples, and more by hand.
func TestMulExamples(t *testing.T) {
	wantSigned(t, 8, 0x48, 0x48, 0x50)
	wantSigned(t, 8, 0xc0, 0x44, 0xbc)
	wantMul(t, 8, 0, 0x80, 0x80)
	wantSigned(t, 8, 0x7f, 0x7f, 0x7f)
	wantSigned(t, 8, 0x01, 0x01, 0x01)
	wantSigned(t, 8, 0x01, 0xff, 0xff)
	wantSigned(t, 8, 0x7f, 0x01, 0x40)
	wantSigned(t, 8, 0x44, 0x44, 0x49) // 9/4
	wantSigned(t, 8, 0x40, 0x40, 0x40)
	wantMul(t, 8, 0, 0, 0)
	wantMul(t, 8, 0, 0x7f, 0)
	wantMul(t, 8, 0x80, 0x80, 0x80)
	wantMul(t, 16, 0x8000, 0, 0x8000)
	wantMul(t, 16, 0x8000, 0x7fff, 0x8000)
	wantSigned(t, 16, 0x4400, 0x4400, 0x4900)
	wantSigned(t, 16, 0x0001, 0x7fff, 0x4000)
	wantSigned(t, 32, 1<<29, 1<<29, 1<<28) // of 1/16 and itself comes 2^-8
	wantSigned(t, 64, 1<<62, nar(64)-1, nar(64)-1)
	wantSigned(t, 64, 1, 1, 1)
	wantSigned(t, 64, 1, nar(64)-1, 1<<62)
}

// P10.2, T1: against the product without bounds, rounded as a text: NaR, Zero, both ends, products near 1, and ties.
func TestMulAgainstNumbersWithoutAnEnd(t *testing.T) {
	for _, n := range widths() {
		ties := [2]int{}
		for _, c := range pairs(n) {
			x, y := value(n, c.a), value(n, c.b)
			if x == nil || y == nil {
				wantMul(t, n, c.a, c.b, nar(n))
				continue
			}
			x.Mul(x, y)
			wantMul(t, n, c.a, c.b, rounded(n, x, 2*unit))
			if x.Sign() == 0 {
				continue
			}
			if p, left := cut(n, x.Abs(x).Text(2), 2*unit); left == "1" {
				ties[p%2]++
			}
		}
		if ties[0] == 0 || ties[1] == 0 {
			t.Errorf("of the width %d the pairs make %d ties at even patterns, %d at odd ones", n, ties[0], ties[1])
		}
	}
}

// P10.2: ties where the string is cut within the fraction, and numbers that differ from them in the product's last digit alone.
func TestMulBesideTies(t *testing.T) {
	for _, n := range widths() {
		// 1 and 2^-places is what comes behind 1; half is what makes it 3/2.
		places := n - 5
		half := uint64(1) << (places - 1)
		l := unity(n)
		for _, c := range []struct{ a, b, want uint64 }{
			{l + 1, l + half, l + half + 2},     // just half is left at an odd pattern
			{l + 1, l + half + 1, l + half + 3}, // at an even one half is left, and one digit more, the last
			{l + 1, l + half - 1, l + half},     // and one digit less
			{l + 3, l + half, l + half + 4},     // just half is left at an even pattern
		} {
			wantSigned(t, n, c.a, c.b, c.want)
		}
	}
}

// P10.2: ties and their neighbours where the string is cut within the run or the exponent, towards both ends.
func TestMulNearTheEnds(t *testing.T) {
	for _, n := range widths() {
		p2, most := powers(n), 4*n-8
		for _, c := range []struct {
			scale int
			want  uint64
		}{
			{most + 1, nar(n) - 1}, {most, nar(n) - 1}, {most - 1, nar(n) - 1},
			{most - 2, nar(n) - 2}, // of 2^most and 2^(most - 4), as near on the string, the even one
			{most - 3, nar(n) - 2}, {most - 4, nar(n) - 2},
			{most - 5, nar(n) - 2}, // of 2^(most - 4) and 2^(most - 6) likewise
			{most - 7, nar(n) - 4}, // of 2^(most - 6) and 2^(most - 8) likewise
			{3 - most, 2},
			{2 - most, 2}, // of 2^-most and 2^(4 - most) likewise
			{1 - most, 1}, {-most, 1}, {-most - 1, 1}, {-most - most/2, 1}, {-2 * most, 1}, {most + most/2, nar(n) - 1}, {2 * most, nar(n) - 1},
			{5 - most, 2}, // of 2^(4 - most) and 2^(6 - most) likewise
			{7 - most, 4}, // of 2^(6 - most) and 2^(8 - most) likewise
		} {
			made := 0
			for s, p := range p2 {
				if q, ok := p2[c.scale-s]; ok {
					wantSigned(t, n, p, q, c.want)
					made++
				}
			}
			if made == 0 {
				t.Errorf("no powers of two of the width %d make 2^%d", n, c.scale)
			}
		}
	}
	wantSigned(t, 8, 0x75, 0x78, 0x7f) // 3 times 2^21: more than half is left behind 7e
	wantSigned(t, 8, 0x74, 0x78, 0x7e) // 2^22: just half
}

// P10.2: NaR in each place and in both, with every edge.
func TestMulOfNaR(t *testing.T) {
	for _, n := range widths() {
		for _, p := range edges(n) {
			wantMul(t, n, nar(n), p, nar(n))
		}
	}
}

// P10.2, P10.3, R3: a width that is none, with whatever patterns and whatever k.
func TestWidthsAreRefused(t *testing.T) {
	for _, n := range refusedWidths() {
		for _, c := range []pair{{0, 0}, {0x40, 0x40}, {0x40, 0xc0}, {0x80, 0x80}, {nar(64), 0}, {0, nar(64)}, {top, top}} {
			if p, err := prod.Mul(n, c.a, c.b); p != 0 || err != api.ErrWidth {
				t.Fatalf("R3: Mul(%d, %#x, %#x) = %#x, %v; want ErrWidth", n, c.a, c.b, p, err)
			}
			for _, k := range append(refusedPowers(), 0, 1, 2, maxPower) {
				if p, err := prod.Power(n, c.a, k); p != 0 || err != api.ErrWidth {
					t.Fatalf("R3: Power(%d, %#x, %d) = %#x, %v; want ErrWidth", n, c.a, k, p, err)
				}
			}
		}
	}
}

// wantExact wants an answer of Exact, in either order, and those that follow with the signs turned.
func wantExact(t *testing.T, x, y api.Num, want api.Exact) {
	t.Helper()
	for _, c := range [][2]api.Num{{x, y}, {y, x}} {
		if p, err := prod.Exact(c[0], c[1]); p != want || err != nil {
			t.Fatalf("P10.1: Exact(%+v, %+v) = %+v, %v; want %+v", c[0], c[1], p, err, want)
		}
		if x.Kind != api.Real || y.Kind != api.Real {
			continue
		}
		if p, err := prod.Exact(negative(c[0]), negative(c[1])); p != want || err != nil {
			t.Fatalf("P10.1: both signs turned: Exact(%+v, %+v) = %+v, %v; want %+v", c[0], c[1], p, err, want)
		}
		turned := want
		turned.Neg = !want.Neg
		if p, err := prod.Exact(negative(c[0]), c[1]); p != turned || err != nil {
			t.Fatalf("P10.1: one sign turned: Exact(%+v, %+v) = %+v, %v; want %+v", negative(c[0]), c[1], p, err, turned)
		}
	}
}

// multiplied is what Exact must answer of two reals, reckoned without bounds.
func multiplied(x, y api.Num) api.Exact {
	f, g := new(big.Int).SetUint64(x.Frac), new(big.Int).SetUint64(y.Frac)
	digits := f.Mul(f, g).Text(2)
	text := digits + strings.Repeat("0", 128)
	hi, _ := strconv.ParseUint(text[:64], 2, 64)
	lo, _ := strconv.ParseUint(text[64:128], 2, 64)
	p := exact(len(digits)-1+x.Scale-63+y.Scale-63, hi, lo)
	p.Neg = x.Neg != y.Neg
	return p
}

// P10.1: the chapter's example, and more by hand: products below 2, from 2 up, and on either side of 2.
func TestExactExamples(t *testing.T) {
	const root2 = 0xb504f333f9de6484 // the root of 2^127, rounded down
	for _, c := range []struct {
		x, y api.Num
		want api.Exact
	}{
		{num(0, 3<<62), num(0, 3<<62), exact(1, 9<<60, 0)},
		{num(0, one), num(0, one), exact(0, one, 0)},
		{num(3, one), num(-5, one), exact(-2, one, 0)},
		{num(0, one), num(0, top), exact(0, top, 0)},
		{num(0, top), num(0, top), exact(1, top-1, 1)},
		{num(7, top), num(8, top-1), exact(16, top-2, 2)},
		{num(0, one+1), num(0, one+1), exact(0, one+2, 2)},
		{num(0, one+1), num(0, one), exact(0, one+1, 0)},
		{num(0, 3<<62), negative(num(0, 5<<61)), api.Exact{Kind: api.Real, Neg: true, Hi: 15 << 60}},
		{num(0, root2), num(0, root2), multiplied(num(0, root2), num(0, root2))},
	} {
		wantExact(t, c.x, c.y, c.want)
	}
	if below, above := multiplied(num(0, root2), num(0, root2)), multiplied(num(0, root2+1), num(0, root2+1)); below.Scale != 0 || above.Scale != 1 {
		t.Error("the square of the root of 2 isn't where the tests want it")
	}
}

// fracs are first words of numbers: powers of two, full ones, single bits at both ends, both sides of the root of 2, mixed ones.
func fracs() []uint64 {
	l := []uint64{one, one + 1, one + 2, 3 << 62, 5 << 61, 0xaaaaaaaaaaaaaaaa, 0xaaaaaaaaaaaaaaab, top, top - 1, top - 1<<32, one | 1<<32, one | 1<<31, one | top>>33}
	for i := range uint64(5) {
		l = append(l, 0xb504f333f9de6482+i)
	}
	for i := range 63 {
		l = append(l, one|1<<i, -(1 << i))
	}
	next := row(3)
	for range 40 {
		l = append(l, next()|one)
	}
	return l
}

// P10.1: all fractions with one another, on both sides of 2, at scales of all kinds.
func TestExactAgainstNumbersWithoutAnEnd(t *testing.T) {
	scales := []int{0, -1, 7, 24, -24, 248, -248, 1 << 20, -1 << 20, farScale - 1, farScale, 1 - farScale, -farScale}
	sides := [2]int{}
	for i, f := range fracs() {
		for j, g := range fracs() {
			x, y := num(scales[i%len(scales)], f), num(scales[(i+j)%len(scales)], g)
			want := multiplied(x, y)
			wantExact(t, x, y, want)
			sides[want.Scale-x.Scale-y.Scale]++
		}
	}
	if sides[0] == 0 || sides[1] == 0 {
		t.Errorf("%d products are below 2, %d from 2 up", sides[0], sides[1])
	}
}

// P10.1, R6: every two scales of a choice up to the bounds of what is sound: the product's own lies beyond those, and is told all the same.
func TestExactAtEveryScale(t *testing.T) {
	l := []int{0, farScale, -farScale, farScale - 1, 1 - farScale}
	for k := range 30 {
		l = append(l, 1<<k, -1<<k, 1<<k-1, 1-1<<k)
	}
	for _, s := range l {
		for _, r := range l {
			wantExact(t, num(s, one), num(r, 3<<62), exact(s+r, 3<<62, 0))
			wantExact(t, num(s, 3<<62), num(r, 3<<62), exact(s+r+1, 9<<60, 0))
		}
	}
	wantExact(t, num(farScale, top), num(farScale, top), exact(1<<31+1, top-1, 1))
	wantExact(t, num(-farScale, one), num(-farScale, one), exact(-1<<31, one, 0))
}

// P10.1: Zero and NaR, with one another and with reals.
func TestExactOfZeroAndNaR(t *testing.T) {
	zero, none := api.Num{Kind: api.Zero}, api.Num{Kind: api.NaR}
	wantExact(t, zero, zero, api.Exact{Kind: api.Zero})
	wantExact(t, zero, none, api.Exact{Kind: api.NaR})
	wantExact(t, none, none, api.Exact{Kind: api.NaR})
	for _, scale := range []int{0, 5, -5, farScale, -farScale} {
		for _, f := range fracs() {
			for _, x := range []api.Num{num(scale, f), negative(num(scale, f))} {
				wantExact(t, x, zero, api.Exact{Kind: api.Zero})
				wantExact(t, x, none, api.Exact{Kind: api.NaR})
			}
		}
	}
}

// unsound are Nums that aren't formed as they must be.
func unsound() []api.Num {
	l := []api.Num{
		{Kind: -1}, {Kind: 3}, {Kind: 4}, {Kind: 257}, {Kind: math.MaxInt}, {Kind: math.MinInt},
		{Kind: 1<<32 + api.Real, Frac: one}, {Kind: 3, Frac: one}, {Kind: -1, Frac: one}, {Kind: api.Real}, {Kind: api.Real, Neg: true},
	}
	for _, kind := range []int{api.Zero, api.NaR} {
		l = append(l, api.Num{Kind: kind, Neg: true}, api.Num{Kind: kind, Scale: 3}, api.Num{Kind: kind, Scale: -1}, api.Num{Kind: kind, Frac: 1},
			api.Num{Kind: kind, Frac: one}, api.Num{Kind: kind, Neg: true, Scale: 1, Frac: one})
	}
	for _, frac := range []uint64{1, 2, 1 << 62, one - 1} {
		l = append(l, num(0, frac), negative(num(5, frac)))
	}
	for _, scale := range []int{farScale + 1, -farScale - 1, 1 << 31, -1 << 31, 1 << 32, -1 << 32, 1 << 40, -1 << 40, math.MaxInt, math.MinInt, math.MinInt + 1} {
		l = append(l, num(scale, one), negative(num(scale, top)))
	}
	return l
}

// P10.1, R6: a Num that isn't sound is refused in either place, ahead of what NaR and Zero answer.
func TestExactRefusesWhatIsNotSound(t *testing.T) {
	others := append(unsound(), api.Num{Kind: api.Zero}, api.Num{Kind: api.NaR}, num(0, one), negative(num(3, top)), num(farScale, one), num(-farScale, one))
	for _, x := range unsound() {
		for _, y := range others {
			for _, c := range [][2]api.Num{{x, y}, {y, x}} {
				if p, err := prod.Exact(c[0], c[1]); p != (api.Exact{}) || err != api.ErrArg {
					t.Fatalf("P10.1: Exact(%+v, %+v) = %+v, %v; want ErrArg", c[0], c[1], p, err)
				}
			}
		}
	}
}

// refusedPowers are numbers of times that Power doesn't take: those beside its bounds, and those of which only the lowest bits lie within.
func refusedPowers() []int {
	return []int{-1, -2, -maxPower, -maxPower - 1, maxPower + 1, maxPower + 2, 2 * maxPower, 1 << 16, 1<<16 + 3, 1<<32 + 3, -1<<32 + 3, math.MaxInt32, math.MinInt32, math.MinInt + 3, math.MaxInt, math.MinInt}
}

// wantPower wants an answer of Power, with bits above the width too.
func wantPower(t *testing.T, n int, a uint64, k int, want uint64) {
	t.Helper()
	for _, a := range []uint64{a, dirty(n, a)} {
		if p, err := prod.Power(n, a, k); p != want || err != nil {
			t.Fatalf("P10.3: Power(%d, %#x, %d) = %#x, %v; want %#x", n, a, k, p, err, want)
		}
	}
}

// P10.3: the chapter's examples, and more by hand.
func TestPowerExamples(t *testing.T) {
	for _, c := range []struct {
		n       int
		a       uint64
		k       int
		want    uint64
		meaning string
	}{
		{8, 0x48, 3, 0x58, "8"},
		{8, 0, 0, 0x40, "Zero to 0 is 1"},
		{8, 0x80, 0, 0x80, "NaR to 0 is NaR"},
		{8, 0x80, 1, 0x80, "NaR"},
		{8, 0x80, 1024, 0x80, "NaR"},
		{8, 0, 1, 0, "Zero"},
		{8, 0, 1024, 0, "Zero"},
		{8, 0x44, 0, 0x40, "1"},
		{8, 0x44, 1, 0x44, "3/2"},
		{8, 0xc0, 1023, 0xc0, "-1"},
		{8, 0xc0, 1024, 0x40, "1"},
		{8, 0x40, 1024, 0x40, "1"},
		{8, 0x7f, 1024, 0x7f, "the greatest"},
		{8, 0x81, 1023, 0x81, "its negative"},
		{8, 0x81, 1024, 0x7f, "the greatest"},
		{8, 0x01, 1024, 0x01, "the least"},
		{8, 0xff, 1023, 0xff, "its negative"},
		{8, 0x41, 4, 0x44, "of 9/8 come 5/4, 11/8, 3/2; rounded once it would be 13/8"},
		{16, 0x4800, 10, 0x7400, "2^10"},
		{64, 0x6000000000000000, 1024, 1<<63 - 1, "of 16 the greatest"},
		{64, 0x2000000000000000, 1024, 1, "of 1/16 the least"},
		{64, 0x4800000000000000, 240, 1<<63 - 4, "2^240"},
		{64, 0x4800000000000000, 1024, 1<<63 - 4, "2^240: 2^241 is rounded to it"},
	} {
		if p, err := prod.Power(c.n, c.a, c.k); p != c.want || err != nil {
			t.Errorf("P10.3: Power(%d, %#x, %d) = %#x, %v; want %#x (%s)", c.n, c.a, c.k, p, err, c.want, c.meaning)
		}
	}
}

// bases are the patterns of which powers are reckoned: all of the width 8; of the others the edges.
func bases(n int) []uint64 {
	if n == 8 {
		return patterns(n)
	}
	return edges(n)
}

// slow tells whether a pattern is so near 1 or -1 that its powers go on changing for long.
func slow(n int, a uint64) bool {
	r := rank(n, a)
	return max(r, -r)>>(n/2) == int64(unity(n))>>(n/2) || max(r, -r) == int64(unity(n))-1
}

// P10.3: powers up to the greatest, against products without bounds, each rounded as a text.
func TestPowerStepByStep(t *testing.T) {
	for _, n := range widths() {
		for i, a := range bases(n) {
			want, most := unity(n), 24
			if slow(n, a) || i%32 == 0 {
				most = maxPower
			}
			for k := range most + 1 {
				if a == nar(n) {
					want = a
				}
				if k <= 24 || k%61 == 0 || k >= maxPower-2 {
					wantPower(t, n, a, k, want)
				}
				want = product(n, want, a)
			}
		}
	}
}

// P10.3: Power says what Mul says.
func TestPowerAndMul(t *testing.T) {
	for _, n := range widths() {
		for _, a := range patterns(n) {
			want := unity(n)
			if folded(n, a) == nar(n) {
				want = nar(n)
			}
			for k := range 6 {
				wantPower(t, n, a, k, want)
				want, _ = prod.Mul(n, want, a)
			}
		}
	}
}

// P10.3: a k that isn't 0 to 1024 is refused, of whatever pattern, of NaR too.
func TestPowerRefuses(t *testing.T) {
	for _, n := range widths() {
		for _, a := range append(edges(n), dirty(n, 0), dirty(n, nar(n)), top) {
			for _, k := range refusedPowers() {
				if p, err := prod.Power(n, a, k); p != 0 || err != api.ErrArg {
					t.Fatalf("P10.3: Power(%d, %#x, %d) = %#x, %v; want ErrArg", n, a, k, p, err)
				}
			}
			if _, err := prod.Power(n, a, maxPower); err != nil {
				t.Fatalf("P10.3: Power(%d, %#x, %d): %v", n, a, maxPower, err)
			}
		}
	}
}

// P10.4: either order; with 1, -1 and Zero.
func TestWhatFollows(t *testing.T) {
	for _, n := range widths() {
		for _, c := range pairs(n) {
			p, err := prod.Mul(n, c.a, c.b)
			if q, again := prod.Mul(n, c.b, c.a); q != p || err != nil || again != nil {
				t.Fatalf("P10.4: Mul(%d, %#x, %#x) = %#x, %v, in the other order %#x, %v", n, c.a, c.b, p, err, q, again)
			}
		}
		for _, a := range patterns(n) {
			if a == nar(n) {
				continue
			}
			wantMul(t, n, a, unity(n), a)
			wantMul(t, n, a, -unity(n), folded(n, -a))
			wantMul(t, n, a, 0, 0)
		}
	}
}

// sign is -1, 0 or 1.
func sign(n int, p uint64) int {
	r := rank(n, p)
	switch {
	case r < 0:
		return -1
	case r > 0:
		return 1
	}
	return 0
}

// P10.4: the sign of what isn't NaR is the product of the signs: none is lost by rounding, and nothing becomes Zero or NaR.
func TestSigns(t *testing.T) {
	for _, n := range widths() {
		for _, c := range pairs(n) {
			a, b := folded(n, c.a), folded(n, c.b)
			if a == nar(n) || b == nar(n) {
				continue
			}
			p, err := prod.Mul(n, a, b)
			if p == nar(n) || sign(n, p) != sign(n, a)*sign(n, b) || err != nil {
				t.Fatalf("P10.4: Mul(%d, %#x, %#x) = %#x, %v", n, a, b, p, err)
			}
		}
	}
}

// P10.4: every two powers of two whose product is a pattern's value: it is that pattern.
func TestPowersOfTwo(t *testing.T) {
	for _, n := range widths() {
		p2 := powers(n)
		for s, p := range p2 {
			for r, q := range p2 {
				want, ok := p2[s+r]
				if !ok {
					continue
				}
				if m, err := prod.Mul(n, p, q); m != want || err != nil {
					t.Fatalf("P10.4: Mul(%d, %#x, %#x), of 2^%d and 2^%d, = %#x, %v; want %#x", n, p, q, s, r, m, err, want)
				}
			}
		}
	}
}

// ascending are patterns that are no NaR, each of a rank above that of the one ahead of it: all of the width 8, and of the others rows of neighbours, far from one another.
func ascending(n int) []uint64 {
	var l []uint64
	if n == 8 {
		for r := int64(-127); r <= 127; r++ {
			l = append(l, folded(n, uint64(r)))
		}
		return l
	}
	limit := int64(nar(n) - 1)
	step := limit / 150
	for r := -limit; r <= limit-8; r += step {
		for i := range int64(8) {
			l = append(l, folded(n, uint64(r+i)))
		}
		if r > limit-step {
			break
		}
	}
	return append(l, nar(n)-1)
}

// P10.2, T2: where the one factor is the same, the products are in the other ones' order, or, if it is below 0, in the other way round.
func TestOrder(t *testing.T) {
	for _, n := range widths() {
		l := ascending(n)
		for _, a := range append(edges(n), l[:60]...) {
			if a == nar(n) {
				continue
			}
			last := int64(math.MinInt64)
			for _, b := range l {
				if sign(n, a) < 0 {
					b = -b
				}
				p, err := prod.Mul(n, a, b)
				if r := rank(n, p); r < last || p == nar(n) || err != nil {
					t.Fatalf("T2: Mul(%d, %#x, %#x) = %#x, %v, of the rank %d, behind the rank %d", n, a, b, p, err, r, last)
				}
				last = rank(n, p)
			}
		}
	}
}
