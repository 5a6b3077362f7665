package root_test

import (
	"math"
	"math/big"
	"math/bits"
	"strconv"
	"strings"
	"testing"

	"vernier/api"
	"vernier/root"
	"vernier/round"
)

// wantExact wants an answer of Exact, and NaR of the negative of a real.
func wantExact(t *testing.T, x, want api.Exact) {
	t.Helper()
	if r, err := root.Exact(x); r != want || err != nil {
		t.Fatalf("P12.1: Exact(%+v) = %+v, %v; want %+v", x, r, err, want)
	}
	if x.Kind != api.Real {
		return
	}
	if r, err := root.Exact(negative(x)); r != (api.Exact{Kind: api.NaR}) || err != nil {
		t.Fatalf("P12.1: Exact(%+v) = %+v, %v; want NaR", negative(x), r, err)
	}
}

// wantRested wants an answer of Exact, and that of the same number with Rest.
func wantRested(t *testing.T, x, want api.Exact) {
	t.Helper()
	wantExact(t, x, want)
	x.Rest, want.Rest = true, true
	wantExact(t, x, want)
}

// extracted is what Exact must answer of a number that is no less than the real's without its Rest, by over / 2^200 of its last place, reckoned without bounds, read off the root's digits as a text.
func extracted(x api.Exact, over *big.Int) api.Exact {
	const behind = 200
	v := new(big.Int).SetUint64(x.Hi)
	v.Lsh(v, 64).Add(v, new(big.Int).SetUint64(x.Lo)).Lsh(v, behind).Add(v, over)
	in := x.Scale - 127 - behind
	if in%2 != 0 {
		v.Lsh(v, 1)
		in--
	}
	r, more := whole(v)
	text := r.Text(2)
	hi, _ := strconv.ParseUint(text[:64], 2, 64)
	return exact(len(text)-1+in/2, hi, 0, more || strings.Contains(text[64:], "1"))
}

// P12.1: the chapter's examples, and more by hand: of even and of odd scales, above 0 and below, that come out even and that don't.
func TestExactExamples(t *testing.T) {
	for _, c := range []struct{ x, want api.Exact }{
		{exact(1, one, 0, false), exact(0, 13043817825332782212, 0, true)},
		{exact(2, one, 0, true), exact(1, one, 0, true)},
		{exact(2, one, 0, false), exact(1, one, 0, false)},
		{exact(0, one, 0, false), exact(0, one, 0, false)},
		{exact(0, one, 0, true), exact(0, one, 0, true)},
		{exact(1, 9<<60, 0, false), exact(0, 3<<62, 0, false)}, // 9/4
		{exact(3, 9<<60, 0, false), exact(1, 3<<62, 0, false)}, // 9
		{exact(-1, one, 0, false), exact(-1, 13043817825332782212, 0, true)},
		{exact(-2, one, 0, false), exact(-1, one, 0, false)},
		{exact(-3, 9<<60, 0, false), exact(-2, 3<<62, 0, false)}, // 9/64
		{exact(-3, 9<<60, 0, true), exact(-2, 3<<62, 0, true)},
		{exact(-7, one, 0, false), exact(-4, 13043817825332782212, 0, true)},
		{exact(0, 25<<59, 0, false), exact(0, 5<<61, 0, false)}, // 25/16
		{exact(0, one, 1, false), exact(0, one, 0, true)},
		{exact(0, one, 2, false), exact(0, one, 0, true)},
		{exact(1, top, top, false), exact(0, top, 0, true)},
		{exact(1, top-1, 0, false), exact(0, top-1, 0, true)},
		{exact(1, top-1, 1, false), exact(0, top, 0, false)},
		{exact(1, top-1, 1, true), exact(0, top, 0, true)},
		{exact(127, one, 0, false), exact(63, 13043817825332782212, 0, true)},
		{exact(-127, one, 0, false), exact(-64, 13043817825332782212, 0, true)},
	} {
		wantExact(t, c.x, c.want)
	}
}

// words are words of digits: none, full ones, single bits at both ends, mixed ones.
func words() []uint64 {
	l := []uint64{0, 1, 2, 3, one, one + 1, 3 << 62, 5 << 61, 9 << 60, 0xaaaaaaaaaaaaaaaa, 0x5555555555555555, top, top - 1, top - 2, top - 1<<32, 1 << 32, 1 << 31, top >> 32, top >> 33}
	for i := 4; i < 64; i += 5 {
		l = append(l, 1<<i, -(1 << i))
	}
	next := row(3)
	for range 40 {
		l = append(l, next())
	}
	return l
}

// P12.1: numbers of all kinds of digits, at even and odd scales, with and without Rest: with it the 64 digits are those of the least and of the greatest number that it may stand for.
func TestExactAgainstNumbersWithoutAnEnd(t *testing.T) {
	scales := []int{0, 1, -1, -2, 7, 24, -24, 248, -247, 1 << 20, -1<<20 - 1, farScale - 1, farScale, 1 - farScale, -farScale}
	most := new(big.Int).Sub(power(200, 0), big.NewInt(1))
	ends := map[[2]bool]int{}
	for i, hi := range words() {
		for j, lo := range words() {
			x := exact(scales[(i+j)%len(scales)], hi|one, lo, false)
			want := extracted(x, new(big.Int))
			wantExact(t, x, want)
			ends[[2]bool{x.Scale%2 == 0, want.Rest}]++
			x.Rest = true
			wantExact(t, x, extracted(x, big.NewInt(1)))
			wantExact(t, x, extracted(x, most))
		}
	}
	if len(ends) != 4 {
		t.Errorf("of even and odd scales so many have a rest: %v", ends)
	}
}

// squared are the digits and the scale, 0 or 1, of the square of r / 2^63, of an r from 2^63 on.
func squared(r uint64) (int, uint64, uint64) {
	hi, lo := bits.Mul64(r, r)
	if hi>>63 == 1 {
		return 1, hi, lo
	}
	return 0, hi<<1 | lo>>63, lo << 1
}

// P12.1: squares of 64 digits come out even, and with Rest they have one; just beside them they don't: a bit above them something is left, and a bit below them the last digit is one less.
func TestExactOfSquaresAndTheirNeighbours(t *testing.T) {
	sides := map[int]int{}
	for _, r := range words() {
		r |= one
		scale, hi, lo := squared(r)
		for _, s := range []int{0, 2, -2, 100, -100, farScale - 2, -farScale} {
			wantExact(t, exact(s+scale, hi, lo, false), exact(s/2, r, 0, false))
			wantExact(t, exact(s+scale, hi, lo, true), exact(s/2, r, 0, true))
			above, carry := bits.Add64(lo, 1, 0)
			wantRested(t, exact(s+scale, hi+carry, above, false), exact(s/2, r, 0, true))
			if r == one {
				// Below this square there is a power of two, and other scales.
				continue
			}
			below, borrow := bits.Sub64(lo, 1, 0)
			wantRested(t, exact(s+scale, hi-borrow, below, false), exact(s/2, r-1, 0, true))
		}
		sides[scale]++
	}
	if sides[0] < 10 || sides[1] < 10 {
		t.Errorf("of the squares so many are of the scales 0 and 1: %v", sides)
	}
	wantRested(t, exact(-1, top, top, false), exact(-1, top, 0, true))                // just below 1
	wantRested(t, exact(0, top, top, false), exact(0, 13043817825332782212, 0, true)) // just below 2
}

// P12.1: a square and 2^64: what is left has more than a word, and in the lower one nothing.
func TestExactWithARoundNumberLeft(t *testing.T) {
	for _, r := range words() {
		r |= one
		hi, lo := bits.Mul64(r, r)
		hi++
		if hi>>63 == 1 {
			wantRested(t, exact(1, hi, lo, false), exact(0, r, 0, true))
		} else {
			wantRested(t, exact(0, hi<<1|lo>>63, lo<<1, false), exact(0, r, 0, true))
		}
	}
}

// P12.1: of what is left the most: the next square less one bit.
func TestExactWithTheMostLeft(t *testing.T) {
	for _, r := range words() {
		r |= one
		if r == top {
			continue
		}
		scale, hi, lo := squared(r + 1)
		below, borrow := bits.Sub64(lo, 1, 0)
		wantRested(t, exact(scale, hi-borrow, below, false), exact(0, r, 0, true))
	}
	wantRested(t, exact(1, top, top, false), exact(0, top, 0, true))
}

// P12.1: at an even scale the last of the 128 bits counts too: there it alone tells that the root doesn't come out even.
func TestExactTellsTheLastBit(t *testing.T) {
	made := 0
	for _, r := range words() {
		scale, hi, lo := squared(r | one)
		if scale == 1 {
			continue
		}
		made++
		wantExact(t, exact(0, hi, lo, false), exact(0, r|one, 0, false))
		wantExact(t, exact(0, hi, lo|1, false), exact(0, r|one, 0, true))
	}
	if made < 10 {
		t.Errorf("there are %d squares of even scales", made)
	}
}

// P12.1, R6: every scale of a choice up to the bounds of what is sound, even and odd, is halved and rounded down.
func TestExactAtEveryScale(t *testing.T) {
	l := []int{0, farScale, farScale - 1, farScale - 2, farScale - 3}
	for s := range 600 {
		l = append(l, s)
	}
	for k := range 40 {
		l = append(l, 1<<k, 1<<k-1, 1<<k+1)
	}
	for _, s := range l {
		for _, s := range []int{s, -s} {
			half := int(math.Floor(float64(s) / 2))
			odd := s - 2*half
			wantRested(t, exact(s, one, 0, false), exact(half, []uint64{one, 13043817825332782212}[odd], 0, odd == 1))
			wantRested(t, exact(s, 9<<60, 0, false), exact(half, []uint64{9782863368999586659, 3 << 62}[odd], 0, odd == 0))
		}
	}
}

// P12.1: Zero and NaR, and reals below 0 of every kind.
func TestExactOfZeroNaRAndNumbersBelow(t *testing.T) {
	wantExact(t, api.Exact{Kind: api.Zero}, api.Exact{Kind: api.Zero})
	wantExact(t, api.Exact{Kind: api.NaR}, api.Exact{Kind: api.NaR})
	for _, s := range []int{0, 1, -1, 2, farScale, -farScale} {
		for _, lo := range words() {
			for _, rest := range []bool{false, true} {
				x := negative(exact(s, lo|one, lo, rest))
				if r, err := root.Exact(x); r != (api.Exact{Kind: api.NaR}) || err != nil {
					t.Fatalf("P12.1: Exact(%+v) = %+v, %v; want NaR", x, r, err)
				}
			}
		}
	}
}

// unsound are Exacts that aren't formed as they must be.
func unsound() []api.Exact {
	l := []api.Exact{
		{Kind: -1}, {Kind: 3}, {Kind: 4}, {Kind: 257}, {Kind: math.MaxInt}, {Kind: math.MinInt},
		{Kind: 1<<32 + api.Real, Hi: one}, {Kind: 3, Hi: one}, {Kind: -1, Hi: one},
		{Kind: api.Real}, {Kind: api.Real, Neg: true}, {Kind: api.Real, Rest: true}, {Kind: api.Real, Lo: one}, {Kind: api.Real, Lo: top, Rest: true},
	}
	for _, kind := range []int{api.Zero, api.NaR} {
		l = append(l, api.Exact{Kind: kind, Neg: true}, api.Exact{Kind: kind, Scale: 3}, api.Exact{Kind: kind, Scale: -1}, api.Exact{Kind: kind, Hi: 1},
			api.Exact{Kind: kind, Hi: one}, api.Exact{Kind: kind, Lo: 1}, api.Exact{Kind: kind, Lo: one}, api.Exact{Kind: kind, Rest: true},
			api.Exact{Kind: kind, Neg: true, Scale: 1, Hi: one, Lo: top, Rest: true})
	}
	for _, hi := range []uint64{1, 2, 1 << 62, one - 1} {
		l = append(l, exact(0, hi, 0, false), exact(1, hi, top, true), negative(exact(5, hi, one, false)))
	}
	for _, scale := range []int{farScale + 1, farScale + 2, -farScale - 1, -farScale - 2, 1 << 41, -1 << 41, 1 << 62, -1 << 62, math.MaxInt, math.MaxInt - 1, math.MinInt, math.MinInt + 1} {
		l = append(l, exact(scale, one, 0, false), exact(scale, top, top, true), negative(exact(scale, top, 1, false)))
	}
	return l
}

// P12.1, R6: an Exact that isn't sound is refused, also one that has the sign of those whose root is NaR.
func TestExactRefusesWhatIsNotSound(t *testing.T) {
	for _, x := range unsound() {
		if r, err := root.Exact(x); r != (api.Exact{}) || err != api.ErrArg {
			t.Fatalf("P12.1: Exact(%+v) = %+v, %v; want ErrArg", x, r, err)
		}
	}
}

// P12.1, R6: what Exact answers is sound: round takes it, and so does Exact, again and again.
func TestExactIsSound(t *testing.T) {
	l := []api.Exact{{Kind: api.Zero}, {Kind: api.NaR}}
	for i, hi := range words() {
		for _, s := range []int{farScale, farScale - 1, -farScale, 1 - farScale, i, -i} {
			l = append(l, exact(s, hi|one, hi, i%2 == 0), negative(exact(s, hi|one, 0, false)))
		}
	}
	for _, x := range l {
		for range 50 {
			r, err := root.Exact(x)
			if err != nil {
				t.Fatalf("R6: Exact(%+v) = %+v, %v", x, r, err)
			}
			if _, err := round.Round(8, r); err != nil {
				t.Fatalf("R6: Exact(%+v) = %+v, which isn't sound", x, r)
			}
			x = r
		}
	}
}
