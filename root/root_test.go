package root_test

import (
	"math/big"
	"slices"
	"testing"

	"vernier/api"
	"vernier/prod"
	"vernier/root"
)

// wantSqrt wants an answer of Sqrt, with bits above the width too.
func wantSqrt(t *testing.T, n int, a, want uint64) {
	t.Helper()
	for _, a := range []uint64{a, dirty(n, a)} {
		if p, err := root.Sqrt(n, a); p != want || err != nil {
			t.Fatalf("P12.2: Sqrt(%d, %#x) = %#x, %v; want %#x", n, a, p, err, want)
		}
	}
}

// P12.2: the chapter's examples and DOC.md's, and more by hand.
func TestSqrtExamples(t *testing.T) {
	wantSqrt(t, 8, 0x50, 0x48)
	wantSqrt(t, 8, 0x48, 0x43) // 11/8
	wantSqrt(t, 8, 0, 0)
	wantSqrt(t, 8, 0xc0, 0x80)
	wantSqrt(t, 8, 0x7f, 0x78)
	wantSqrt(t, 8, 0x01, 0x08) // of 2^-24 comes 2^-12
	wantSqrt(t, 8, 0xff, 0x80)
	wantSqrt(t, 8, 0x81, 0x80)
	wantSqrt(t, 8, 0x80, 0x80)
	wantSqrt(t, 8, 0x40, 0x40)
	wantSqrt(t, 8, 0x60, 0x50) // of 16 comes 4
	wantSqrt(t, 8, 0x38, 0x3b) // of 1/2 comes nearly 11/16
	wantSqrt(t, 8, 0x30, 0x38) // of 1/4 comes 1/2
	wantSqrt(t, 8, 0x49, 0x44) // of 9/4 comes 3/2
	wantSqrt(t, 8, 0x4c, 0x46) // of 3 comes nearly 7/4
	wantSqrt(t, 8, 0x41, 0x40) // the root of 9/8 is just below the tie of 1 and 9/8
	wantSqrt(t, 16, 0x4800, 0x4350)
	wantSqrt(t, 16, 0x7fff, 0x7f80)
	wantSqrt(t, 16, 0x0001, 0x0080)
	wantSqrt(t, 16, 0x4480, 0x4200) // of 25/16 (a string of 10 00 1001) comes 5/4
	wantSqrt(t, 32, 0x48000000, 0x43504f33)
	wantSqrt(t, 64, 0x4800000000000000, 0x43504f333f9de648)
	wantSqrt(t, 64, 0x5000000000000000, 0x4800000000000000)
	wantSqrt(t, 64, 1<<62, 1<<62)
	wantSqrt(t, 64, nar(64)-1, nar(64)-nar(64)>>32)
	wantSqrt(t, 64, 1, nar(64)>>32)
	wantSqrt(t, 64, 1<<62+1, 1<<62)
	wantSqrt(t, 64, 1<<62-1, 1<<62-1)
}

// P12.2, T1: against the root without bounds, rounded as a text: NaR, Zero, numbers below 0, both ends, roots that come out even and that don't.
func TestSqrtAgainstNumbersWithoutAnEnd(t *testing.T) {
	for _, n := range widths() {
		below, even, endless := 0, 0, 0
		for _, a := range patterns(n) {
			v := value(n, a)
			wantSqrt(t, n, a, sqrt(n, a))
			switch {
			case v == nil:
			case v.Sign() < 0:
				below++
			case rooted(v).Bit(0) == 0:
				even++
			default:
				endless++
			}
		}
		if below < 127 || even < 15 || endless < 100 {
			t.Errorf("of the width %d the patterns make %d numbers below 0, %d roots that come out even and %d without an end", n, below, even, endless)
		}
	}
}

// oddRoot is a number whose square is d, modulo 2^64, of a d that is 1 modulo 8.
func oddRoot(d uint64) uint64 {
	r := uint64(1)
	for i := 3; i < 64; i++ {
		// From place to place: what is wrong in one is mended by the place below it.
		r += (r*r ^ d) >> i & 1 << (i - 1)
	}
	return r
}

// halves are the odd numbers below 4 times least and not below twice that, whose square, with over, may be a multiple of the last place of a pattern near 1.
func halves(least, over uint64) []uint64 {
	var l []uint64
	for _, module := range []uint64{4 * least, 8 * least} {
		r := oddRoot(-over)
		for _, h := range []uint64{r, -r, r + module/2, module/2 - r} {
			if h %= module; h >= 2*least && h < 4*least {
				l = append(l, h)
			}
		}
	}
	return l
}

// P12.2: roots just above and just below a tie, as near as such patterns can make them, so that only the very last of what is left tells it. (No root of a pattern is a tie: that would have more digits than a pattern has room for.)
func TestSqrtBesideTies(t *testing.T) {
	for _, n := range widths() {
		// Near 1 there are n - 5 places for a fraction, and a tie has one more.
		least := unity(n) / 8
		made := [2][2]int{}
		for over := -401; over < 400; over += 8 {
			above := 0
			if over > 0 {
				above = 1
			}
			for _, half := range halves(least, uint64(over)) {
				if 2*half <= uint64(max(over, -over)) {
					// In short widths that isn't near.
					continue
				}
				v := new(big.Int).SetUint64(half)
				v.Mul(v, v).Add(v, big.NewInt(int64(over)))
				p := half/2 - least
				for j := -1; j <= 2; j++ {
					// In units of 2^unit, and a power of four.
					a, ok := pattern(n, new(big.Int).Lsh(v, uint(-unit-2*(n-4)-2*j)), unit)
					if !ok {
						continue
					}
					wantSqrt(t, n, a, unity(n)-uint64(j)*least+p+uint64(above))
					made[p%2][above]++
				}
			}
		}
		for _, m := range made {
			if slices.Contains(m[:], 0) {
				t.Errorf("of the width %d there are so many beside ties at even and at odd patterns, below and above: %v", n, made)
			}
		}
	}
}

// P12.2: the powers of two, from end to end: of even scales their roots come out even, of odd ones they never do.
func TestSqrtOfPowersOfTwo(t *testing.T) {
	for _, n := range widths() {
		p2 := powers(n)
		for s, p := range p2 {
			wantSqrt(t, n, folded(n, -p), nar(n))
			if s%2 != 0 {
				wantSqrt(t, n, p, sqrt(n, p))
				continue
			}
			half, ok := p2[s/2]
			if !ok {
				t.Fatalf("2^%d is no pattern of the width %d", s/2, n)
			}
			wantSqrt(t, n, p, half)
		}
	}
}

// P12.2: NaR, Zero and whatever is below 0.
func TestSqrtOfNaRZeroAndNumbersBelow(t *testing.T) {
	for _, n := range widths() {
		wantSqrt(t, n, nar(n), nar(n))
		wantSqrt(t, n, 0, 0)
		for _, p := range ascending(n) {
			if p != 0 {
				wantSqrt(t, n, folded(n, -p), nar(n))
			}
		}
	}
}

// P12.2, R3: a width that is none, with whatever pattern.
func TestWidthsAreRefused(t *testing.T) {
	for _, n := range refusedWidths() {
		for _, a := range []uint64{0, 1, 0x40, 0x50, 0x80, 0xc0, 0x8000, unity(64), nar(64), top} {
			if p, err := root.Sqrt(n, a); p != 0 || err != api.ErrWidth {
				t.Fatalf("R3: Sqrt(%d, %#x) = %#x, %v; want ErrWidth", n, a, p, err)
			}
		}
	}
}

// squares are patterns of Zero and above whose square has room in the width, with that of it.
func squares(n int) map[uint64]uint64 {
	l := map[uint64]uint64{}
	next := row(uint64(n) + 1)
	all := patterns(n)
	for i := range 200 * n {
		// Short ones: few bits, of which many squares have room.
		p := folded(n, next()) >> (2 + i%(n-3))
		all = append(all, p, p<<(i%n)%nar(n), nar(n)-p, unity(n)|p>>(n/2)<<(n/2))
	}
	for _, p := range all {
		v := value(n, p)
		if v == nil || v.Sign() < 0 {
			continue
		}
		if q, ok := pattern(n, v.Mul(v, v), 2*unit); ok {
			l[p] = q
		}
	}
	return l
}

// P12.3: the root of an exact square is the absolute value; those beside the square are rooted likewise.
func TestRootsOfSquares(t *testing.T) {
	for _, n := range widths() {
		made := squares(n)
		for p, q := range made {
			for _, a := range []uint64{p, folded(n, -p)} {
				if s, err := prod.Mul(n, a, a); s != q || err != nil {
					t.Fatalf("Mul(%d, %#x, %#x) = %#x, %v; want %#x", n, a, a, s, err, q)
				}
			}
			wantSqrt(t, n, q, p)
			for _, beside := range []uint64{folded(n, q-1), q + 1} {
				wantSqrt(t, n, beside, sqrt(n, beside))
			}
		}
		if len(made) < 4*n-10 {
			t.Errorf("of the width %d there are %d exact squares", n, len(made))
		}
	}
}

// P12.3, T2: the greater a number, the greater its root, from Zero to the greatest.
func TestOrder(t *testing.T) {
	for _, n := range widths() {
		last := int64(0)
		for _, a := range ascending(n) {
			p, err := root.Sqrt(n, a)
			if r := rank(n, p); r < last || err != nil {
				t.Fatalf("P12.3: Sqrt(%d, %#x) = %#x, %v, of the rank %d, behind the rank %d", n, a, p, err, r, last)
			}
			last = rank(n, p)
		}
	}
}
