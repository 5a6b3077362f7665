package quot_test

import (
	"math"
	"math/big"
	"math/bits"
	"slices"
	"strconv"
	"strings"
	"testing"

	"vernier/api"
	"vernier/quot"
	"vernier/round"
)

// wantExact wants an answer of Exact, and those that follow of reals with the signs turned.
func wantExact(t *testing.T, x, y api.Num, want api.Exact) {
	t.Helper()
	if q, err := quot.Exact(x, y); q != want || err != nil {
		t.Fatalf("P11.1: Exact(%+v, %+v) = %+v, %v; want %+v", x, y, q, err, want)
	}
	if x.Kind != api.Real || y.Kind != api.Real {
		return
	}
	if q, err := quot.Exact(negative(x), negative(y)); q != want || err != nil {
		t.Fatalf("P11.1: both signs turned: Exact(%+v, %+v) = %+v, %v; want %+v", negative(x), negative(y), q, err, want)
	}
	turned := want
	turned.Neg = !want.Neg
	for _, c := range [][2]api.Num{{negative(x), y}, {x, negative(y)}} {
		if q, err := quot.Exact(c[0], c[1]); q != turned || err != nil {
			t.Fatalf("P11.1: one sign turned: Exact(%+v, %+v) = %+v, %v; want %+v", c[0], c[1], q, err, turned)
		}
	}
}

// divided is what Exact must answer of two reals, reckoned without bounds, read off the quotient's digits as a text.
func divided(x, y api.Num) api.Exact {
	const behind = 200
	f, g := new(big.Int).SetUint64(x.Frac), new(big.Int).SetUint64(y.Frac)
	v, left := f.QuoRem(f.Lsh(f, behind), g, new(big.Int))
	text := v.Text(2)
	hi, _ := strconv.ParseUint(text[:64], 2, 64)
	rest := strings.Contains(text[64:], "1") || left.Sign() != 0
	q := exact(len(text)-1-behind+x.Scale-y.Scale, hi, rest)
	q.Neg = x.Neg != y.Neg
	return q
}

// P11.1: the chapter's example, and more by hand: quotients of fractions below, at and above 1, that come out even and that don't, with what is left far behind the digits.
func TestExactExamples(t *testing.T) {
	for _, c := range []struct {
		x, y api.Num
		want api.Exact
	}{
		{num(0, one), num(1, 3<<62), exact(-2, 12297829382473034410, true)},
		{num(1, 3<<62), num(0, one), exact(1, 3<<62, false)},
		{num(0, one), num(0, one), exact(0, one, false)},
		{num(5, top), num(5, top), exact(0, one, false)},
		{num(3, one), num(-5, one), exact(8, one, false)},
		{num(-5, one), num(3, one), exact(-8, one, false)},
		{num(1, 9<<60), num(0, 3<<62), exact(0, 3<<62, false)},
		{num(0, 9<<60), num(0, 3<<62), exact(-1, 3<<62, false)},
		{num(0, 3<<62), num(0, 9<<60), exact(0, 0xaaaaaaaaaaaaaaaa, true)},
		{num(0, 15<<60), num(0, 5<<61), exact(0, 3<<62, false)},
		{num(0, top), num(0, one), exact(0, top, false)},
		{num(0, one+1), num(0, one), exact(0, one+1, false)},
		{num(0, one), num(0, top), exact(-1, one, true)},
		{num(0, one), num(0, one+1), exact(-1, top-1, true)},
		{num(0, top-1), num(0, top), exact(-1, top-1, true)},
		{num(0, top), num(0, top-1), exact(0, one, true)},
		{num(0, one+1), num(0, one+2), exact(-1, top-1, true)},
		{num(0, one+2), num(0, one+1), exact(0, one, true)},
		{num(2, 3<<62), negative(num(0, one)), api.Exact{Kind: api.Real, Neg: true, Scale: 2, Hi: 3 << 62}},
	} {
		wantExact(t, c.x, c.y, c.want)
	}
}

// fracs are first words of numbers: powers of two, full ones, single bits at both ends, mixed ones.
func fracs() []uint64 {
	l := []uint64{one, one + 1, one + 2, one + 3, 3 << 62, 5 << 61, 9 << 60, 0xaaaaaaaaaaaaaaaa, 0xaaaaaaaaaaaaaaab, top, top - 1, top - 2, top - 1<<32, one | 1<<32, one | 1<<31, one | top>>33}
	for i := range 63 {
		l = append(l, one|1<<i, -(1 << i))
	}
	next := row(3)
	for range 40 {
		l = append(l, next()|one)
	}
	return l
}

// P11.1: all fractions by one another, at scales of all kinds.
func TestExactAgainstNumbersWithoutAnEnd(t *testing.T) {
	scales := []int{0, -1, 7, 24, -24, 248, -248, 1 << 20, -1 << 20, farScale - 1, farScale, 1 - farScale, -farScale}
	ends, sides := map[bool]int{}, map[int]int{}
	for i, f := range fracs() {
		for j, g := range fracs() {
			x, y := num(scales[i%len(scales)], f), num(scales[(i+j)%len(scales)], g)
			want := divided(x, y)
			wantExact(t, x, y, want)
			ends[want.Rest]++
			sides[want.Scale-x.Scale+y.Scale]++
		}
	}
	if ends[false] < 100 || ends[true] < 100 || sides[0] < 100 || sides[-1] < 100 || len(sides) != 2 {
		t.Errorf("of the quotients %v have a rest, by their scales they are %v", ends, sides)
	}
}

// P11.1: products of two short words come out even, divided by either.
func TestExactThatComesOutEven(t *testing.T) {
	next := row(5)
	for i := range 3000 {
		f, g := next()>>32|one>>32, next()>>32|one>>32
		g &= top << (i % 32)
		p, scale := f*g, 1
		if p>>63 == 0 {
			p, scale = p<<1, 0
		}
		wantExact(t, num(scale, p), num(0, g<<32), exact(0, f<<32, false))
		wantExact(t, num(scale, p), num(0, f<<32), exact(0, g<<32, false))
	}
}

// P11.1: of a division by an odd g at least 1 is left, and at most g - 1: dividends just 1 above and just 1 below what g makes of 64 digits, of fractions below 1 and above.
func TestExactWithTheLeastAndTheMostLeft(t *testing.T) {
	made := [2][2]int{}
	for _, g := range fracs() {
		g |= 1
		for _, over := range []uint64{1, top} {
			// With this q, g times q, and over, is a multiple of 2^64, and, whatever the highest bit, of 2^63.
			q := -over * inverse(g)
			if f, ok := missed(g, q, over, 64); ok && f>>63 == 1 && f < g {
				wantExact(t, num(0, f), num(0, g), exact(-1, q-over>>63, true))
				made[0][over>>63]++
			}
			q |= one
			if f, ok := missed(g, q, over, 63); ok && f >= g {
				wantExact(t, num(0, f), num(0, g), exact(0, q-over>>63, true))
				made[1][over>>63]++
			}
		}
	}
	for _, m := range made {
		if slices.Contains(m[:], 0) {
			t.Errorf("below 1 and above, the fractions make so many: %v", made)
		}
	}
}

// missed is g times q, and over, 1 or -1, divided by 2^places, if it is a word.
func missed(g, q, over uint64, places int) (uint64, bool) {
	hi, lo := bits.Mul64(g, q)
	lo, carry := bits.Add64(lo, over, 0)
	hi += carry - over>>63
	return hi<<(64-places) | lo>>places, hi>>places == 0
}

// P11.1, R6: every two scales of a choice up to the bounds of what is sound: the quotient's own lies beyond those, and is told all the same.
func TestExactAtEveryScale(t *testing.T) {
	l := []int{0, farScale, -farScale, farScale - 1, 1 - farScale}
	for k := range 30 {
		l = append(l, 1<<k, -1<<k, 1<<k-1, 1-1<<k)
	}
	for _, s := range l {
		for _, r := range l {
			wantExact(t, num(s, one), num(r, 3<<62), exact(s-r-1, 0xaaaaaaaaaaaaaaaa, true))
			wantExact(t, num(s, 3<<62), num(r, one), exact(s-r, 3<<62, false))
			wantExact(t, num(s, top), num(r, top), exact(s-r, one, false))
		}
	}
	wantExact(t, num(farScale, top), num(-farScale, one), exact(1<<31, top, false))
	wantExact(t, num(-farScale, one), num(farScale, top), exact(-1<<31-1, one, true))
}

// P11.1: Zero and NaR, with one another and with reals; no sign is left of Zero.
func TestExactOfZeroAndNaR(t *testing.T) {
	zero, none := api.Num{Kind: api.Zero}, api.Num{Kind: api.NaR}
	for _, c := range [][2]api.Num{{zero, zero}, {zero, none}, {none, zero}, {none, none}} {
		wantExact(t, c[0], c[1], api.Exact{Kind: api.NaR})
	}
	for _, scale := range []int{0, 5, -5, farScale, -farScale} {
		for _, f := range fracs() {
			for _, x := range []api.Num{num(scale, f), negative(num(scale, f))} {
				wantExact(t, zero, x, api.Exact{Kind: api.Zero})
				wantExact(t, x, zero, api.Exact{Kind: api.NaR})
				wantExact(t, none, x, api.Exact{Kind: api.NaR})
				wantExact(t, x, none, api.Exact{Kind: api.NaR})
			}
		}
	}
}

// unsound are Nums that aren't formed as they must be.
func unsound() []api.Num {
	l := []api.Num{
		{Kind: -1}, {Kind: 3}, {Kind: 4}, {Kind: 257}, {Kind: math.MaxInt}, {Kind: math.MinInt},
		{Kind: 1<<32 + api.Real, Frac: one}, {Kind: 3, Frac: one}, {Kind: -1, Frac: one}, {Kind: api.Real}, {Kind: api.Real, Neg: true},
	}
	for _, kind := range []int{api.Zero, api.NaR} {
		l = append(l, api.Num{Kind: kind, Neg: true}, api.Num{Kind: kind, Scale: 3}, api.Num{Kind: kind, Scale: -1}, api.Num{Kind: kind, Frac: 1},
			api.Num{Kind: kind, Frac: one}, api.Num{Kind: kind, Neg: true, Scale: 1, Frac: one})
	}
	for _, frac := range []uint64{1, 2, 1 << 62, one - 1} {
		l = append(l, num(0, frac), negative(num(5, frac)))
	}
	for _, scale := range []int{farScale + 1, -farScale - 1, 1 << 31, -1 << 31, 1 << 32, -1 << 32, 1 << 40, -1 << 40, math.MaxInt, math.MinInt, math.MinInt + 1} {
		l = append(l, num(scale, one), negative(num(scale, top)))
	}
	return l
}

// P11.1, R6: a Num that isn't sound is refused in either place, ahead of what NaR and Zero answer.
func TestExactRefusesWhatIsNotSound(t *testing.T) {
	others := append(unsound(), api.Num{Kind: api.Zero}, api.Num{Kind: api.NaR}, num(0, one), negative(num(3, top)), num(farScale, one), num(-farScale, one))
	for _, x := range unsound() {
		for _, y := range others {
			for _, c := range [][2]api.Num{{x, y}, {y, x}} {
				if q, err := quot.Exact(c[0], c[1]); q != (api.Exact{}) || err != api.ErrArg {
					t.Fatalf("P11.1: Exact(%+v, %+v) = %+v, %v; want ErrArg", c[0], c[1], q, err)
				}
			}
		}
	}
}

// P11.1, R6: what Exact answers is sound: round takes it.
func TestExactIsSound(t *testing.T) {
	l := []api.Num{{Kind: api.Zero}, {Kind: api.NaR}}
	for _, f := range fracs() {
		l = append(l, num(farScale, f), negative(num(-farScale, f)), num(0, f))
	}
	for _, x := range l {
		for _, y := range l {
			q, _ := quot.Exact(x, y)
			if _, err := round.Round(8, q); err != nil {
				t.Fatalf("R6: Exact(%+v, %+v) = %+v, which isn't sound", x, y, q)
			}
		}
	}
}
