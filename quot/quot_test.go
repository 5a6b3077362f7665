package quot_test

import (
	"math"
	"math/bits"
	"slices"
	"testing"

	"vernier/api"
	"vernier/prod"
	"vernier/quot"
)

// wantDiv wants an answer of Div, with bits above the width too.
func wantDiv(t *testing.T, n int, a, b, want uint64) {
	t.Helper()
	for _, c := range []pair{{a, b}, {dirty(n, a), b}, {a, dirty(n, b)}, {dirty(n, a), dirty(n, b)}} {
		if p, err := quot.Div(n, c.a, c.b); p != want || err != nil {
			t.Fatalf("P11.2: Div(%d, %#x, %#x) = %#x, %v; want %#x", n, c.a, c.b, p, err, want)
		}
	}
}

// wantSigned wants an answer of Div of two reals, and those that follow with the signs turned.
func wantSigned(t *testing.T, n int, a, b, want uint64) {
	t.Helper()
	wantDiv(t, n, a, b, want)
	wantDiv(t, n, -a, b, folded(n, -want))
	wantDiv(t, n, a, -b, folded(n, -want))
	wantDiv(t, n, -a, -b, want)
}

// P11.2: the chapter's examples and DOC.md's, and more by hand.
func TestDivExamples(t *testing.T) {
	wantSigned(t, 8, 0x40, 0x48, 0x38)
	wantDiv(t, 8, 0x40, 0, 0x80)
	wantDiv(t, 8, 0, 0x80, 0x80)
	wantDiv(t, 8, 0, 0x44, 0)
	wantDiv(t, 8, 0, 0xbc, 0)
	wantDiv(t, 8, 0, 0, 0x80)
	wantSigned(t, 8, 0x7f, 0x01, 0x7f)
	wantSigned(t, 8, 0x01, 0x7f, 0x01)
	wantSigned(t, 8, 0x44, 0x44, 0x40)
	wantSigned(t, 8, 0x49, 0x44, 0x44) // of 9/4 and 3/2 comes 3/2
	wantSigned(t, 8, 0x44, 0x49, 0x3b) // 2/3 is nearest 11/16
	wantSigned(t, 8, 0x7f, 0x7f, 0x40)
	wantSigned(t, 8, 0x01, 0x01, 0x40)
	wantSigned(t, 8, 0x48, 0x40, 0x48)
	wantSigned(t, 8, 0x48, 0xc0, 0xb8)
	wantSigned(t, 16, 0x4000, 0x4c00, 0x32ab) // 1/3
	wantSigned(t, 16, 0x4c00, 0x4400, 0x4800) // 3 by 3/2
	wantSigned(t, 32, 0x40000000, 0x4c000000, 0x32aaaaab)
	wantSigned(t, 64, 0x4000000000000000, 0x4c00000000000000, 0x32aaaaaaaaaaaaab)
	wantSigned(t, 64, 1, 1, 1<<62)
	wantSigned(t, 64, nar(64)-1, 1<<62, nar(64)-1)
	wantSigned(t, 64, 1<<62, nar(64)-1, 1)
	wantSigned(t, 64, nar(64)-1, 1, nar(64)-1)
	wantSigned(t, 64, 1, nar(64)-1, 1)
}

// P11.2, T1: against the quotient without bounds, rounded as a text: NaR, Zero, both ends, quotients near 1, quotients that come out even and that don't, and ties, of odd divisors too.
func TestDivAgainstNumbersWithoutAnEnd(t *testing.T) {
	for _, n := range widths() {
		ties, odd, endless := [2]int{}, 0, 0
		for _, c := range pairs(n) {
			x, y := value(n, c.a), value(n, c.b)
			if x == nil || y == nil || y.Sign() == 0 {
				wantDiv(t, n, c.a, c.b, nar(n))
				continue
			}
			q := ratio(n, x, y)
			wantDiv(t, n, c.a, c.b, rounded(n, q, -deep(n)))
			endless += int(q.Bit(0))
			if q.Sign() == 0 {
				continue
			}
			if p, left := cut(n, q.Abs(q).Text(2), -deep(n)); left == "1" {
				ties[p%2]++
				if int(y.TrailingZeroBits()) != y.BitLen()-1 {
					odd++
				}
			}
		}
		if ties[0] < 100 || ties[1] < 100 || odd < 100 || endless < 100 {
			t.Errorf("of the width %d the pairs make %d ties at even patterns, %d at odd ones, %d by odd ones, and %d quotients without an end", n, ties[0], ties[1], odd, endless)
		}
	}
}

// inverse is the number that times an odd one is 1, modulo 2^64.
func inverse(odd uint64) uint64 {
	x := odd
	for range 6 {
		x *= 2 - odd*x
	}
	return x
}

// beside answers patterns near 1 whose quotient is half / 2^(n - 4) but for over, 1 or -1, of the least difference that such patterns can make. Half is odd, and what it tells is a tie between 1 and 2.
func beside(n int, half, over uint64) (pair, bool) {
	unit := unity(n) / 4
	// With this b, half times b, and over, is a multiple of the unit: a times the unit.
	b := -over * inverse(half) % unit
	hi, lo := bits.Mul64(half, b)
	lo, carry := bits.Add64(lo, over, 0)
	hi += carry - over>>63
	a := hi<<(68-n) | lo/unit
	q := unity(n) + b - unit/2
	if a < unit {
		return pair{unity(n) + a - unit/2, q}, b >= unit/2
	}
	// From 2 up the last place is worth twice as much.
	return pair{unity(n) + a/2, q}, b >= unit/2 && a%2 == 0
}

// P11.2: quotients just above and just below a tie, so near that only the very last of what is left tells it.
func TestDivBesideTies(t *testing.T) {
	for _, n := range widths() {
		// Near 1 there are n - 5 places for a fraction, and a tie has one more.
		unit := unity(n) / 4
		made := [2][2]int{}
		next := row(uint64(n) + 4)
		for i := range uint64(2000) {
			half := unit | next()%unit | 1
			if i < 200 {
				half = unit | (2*i+1)%unit
			}
			for _, over := range []uint64{1, top} {
				c, ok := beside(n, half, over)
				if !ok {
					continue
				}
				want := unity(n) + half%unit/2
				made[want%2][over>>63]++
				if over == 1 {
					want++
				}
				wantSigned(t, n, c.a, c.b, want)
			}
		}
		for _, m := range made {
			if slices.Contains(m[:], 0) {
				t.Errorf("of the width %d there are so many beside ties at even and at odd patterns, above and below: %v", n, made)
			}
		}
	}
}

// P11.2: ties and their neighbours where the string is cut within the run or the exponent, towards both ends and beyond them.
func TestDivNearTheEnds(t *testing.T) {
	for _, n := range widths() {
		p2, most := powers(n), 4*n-8
		for _, c := range []struct {
			scale int
			want  uint64
		}{
			{most + 1, nar(n) - 1}, {most, nar(n) - 1}, {most - 1, nar(n) - 1},
			{most - 2, nar(n) - 2}, // of 2^most and 2^(most - 4), as near on the string, the even one
			{most - 3, nar(n) - 2}, {most - 4, nar(n) - 2},
			{most - 5, nar(n) - 2}, // of 2^(most - 4) and 2^(most - 6) likewise
			{most - 7, nar(n) - 4}, // of 2^(most - 6) and 2^(most - 8) likewise
			{3 - most, 2},
			{2 - most, 2}, // of 2^-most and 2^(4 - most) likewise
			{1 - most, 1}, {-most, 1}, {-most - 1, 1}, {-most - most/2, 1}, {-2 * most, 1}, {most + most/2, nar(n) - 1}, {2 * most, nar(n) - 1},
			{5 - most, 2}, // of 2^(4 - most) and 2^(6 - most) likewise
			{7 - most, 4}, // of 2^(6 - most) and 2^(8 - most) likewise
		} {
			made := 0
			for s, p := range p2 {
				if q, ok := p2[s-c.scale]; ok {
					wantSigned(t, n, p, q, c.want)
					made++
				}
			}
			if made == 0 {
				t.Errorf("no powers of two of the width %d make 2^%d", n, c.scale)
			}
		}
	}
	wantSigned(t, 8, 0x75, 0x08, 0x7f) // 3 times 2^21: more than half is left behind 7e
	wantSigned(t, 8, 0x74, 0x08, 0x7e) // 2^22: just half
}

// P11.2: NaR in each place and in both, and by Zero, with every edge; Zero by every other.
func TestDivOfNaRAndZero(t *testing.T) {
	for _, n := range widths() {
		for _, p := range edges(n) {
			wantDiv(t, n, nar(n), p, nar(n))
			wantDiv(t, n, p, nar(n), nar(n))
			wantDiv(t, n, p, 0, nar(n))
			if p != 0 && p != nar(n) {
				wantDiv(t, n, 0, p, 0)
			}
		}
	}
}

// P11.2, P11.3, R3: a width that is none, with whatever patterns.
func TestWidthsAreRefused(t *testing.T) {
	for _, n := range refusedWidths() {
		for _, c := range []pair{{0, 0}, {0x40, 0x40}, {0x40, 0xc0}, {0x80, 0x80}, {0x40, 0}, {0, 0x40}, {nar(64), 0}, {0, nar(64)}, {top, top}} {
			if p, err := quot.Div(n, c.a, c.b); p != 0 || err != api.ErrWidth {
				t.Fatalf("R3: Div(%d, %#x, %#x) = %#x, %v; want ErrWidth", n, c.a, c.b, p, err)
			}
			if p, err := quot.Inv(n, c.b); p != 0 || err != api.ErrWidth {
				t.Fatalf("R3: Inv(%d, %#x) = %#x, %v; want ErrWidth", n, c.b, p, err)
			}
		}
	}
}

// wantInv wants an answer of Inv, with bits above the width too.
func wantInv(t *testing.T, n int, a, want uint64) {
	t.Helper()
	for _, a := range []uint64{a, dirty(n, a)} {
		if p, err := quot.Inv(n, a); p != want || err != nil {
			t.Fatalf("P11.3: Inv(%d, %#x) = %#x, %v; want %#x", n, a, p, err, want)
		}
	}
}

// P11.3: the chapter's examples, and more by hand.
func TestInvExamples(t *testing.T) {
	wantInv(t, 8, 0x7f, 0x01)
	wantInv(t, 8, 0xc0, 0xc0)
	wantInv(t, 8, 0x01, 0x7f)
	wantInv(t, 8, 0x81, 0xff)
	wantInv(t, 8, 0x40, 0x40)
	wantInv(t, 8, 0x48, 0x38)
	wantInv(t, 8, 0x60, 0x20)
	wantInv(t, 8, 0x4c, 0x33) // 1/3
	wantInv(t, 8, 0xb4, 0xcd)
	wantInv(t, 16, 0x4c00, 0x32ab)
	wantInv(t, 32, 0x4c000000, 0x32aaaaab)
	wantInv(t, 64, 0x4c00000000000000, 0x32aaaaaaaaaaaaab)
	for _, n := range widths() {
		wantInv(t, n, 0, nar(n))
		wantInv(t, n, nar(n), nar(n))
		wantInv(t, n, 1, nar(n)-1)
		wantInv(t, n, nar(n)-1, 1)
	}
}

// P11.3: 1 divided by each pattern, against the quotient without bounds, and against Div.
func TestInv(t *testing.T) {
	for _, n := range widths() {
		for _, a := range patterns(n) {
			wantInv(t, n, a, quotient(n, unity(n), a))
			wantDiv(t, n, unity(n), a, quotient(n, unity(n), a))
		}
	}
}

// P11.4: by 1, by -1, and by itself.
func TestByOneAndByItself(t *testing.T) {
	for _, n := range widths() {
		for _, a := range patterns(n) {
			if a == nar(n) {
				continue
			}
			wantDiv(t, n, a, unity(n), a)
			wantDiv(t, n, a, -unity(n), folded(n, -a))
			if a != 0 {
				wantDiv(t, n, a, a, unity(n))
				wantDiv(t, n, a, -a, folded(n, -unity(n)))
			}
		}
	}
}

// P11.4: a quotient by a power of two or its negative is what Mul makes of the inverse; and the inverse is exact.
func TestByPowersOfTwo(t *testing.T) {
	for _, n := range widths() {
		p2 := powers(n)
		l := edges(n)
		if n == 8 {
			l = patterns(n)
		}
		for s, q := range p2 {
			wantInv(t, n, q, p2[-s])
			wantInv(t, n, -q, folded(n, -p2[-s]))
			for _, q := range []uint64{q, folded(n, -q)} {
				i, _ := quot.Inv(n, q)
				for _, a := range l {
					want, err := prod.Mul(n, a, i)
					if d, again := quot.Div(n, a, q); d != want || err != nil || again != nil {
						t.Fatalf("P11.4: Div(%d, %#x, %#x) = %#x, %v; Mul by the inverse %#x = %#x, %v", n, a, q, d, again, i, want, err)
					}
				}
			}
		}
	}
}

// P11.4: the signs part as in products: none is lost by rounding, a sign turned turns the quotient's, and nothing becomes Zero or NaR.
func TestSigns(t *testing.T) {
	for _, n := range widths() {
		for _, c := range pairs(n) {
			a, b := folded(n, c.a), folded(n, c.b)
			if a == nar(n) || b == nar(n) || b == 0 {
				continue
			}
			p, err := quot.Div(n, a, b)
			if p == nar(n) || sign(n, p) != sign(n, a)*sign(n, b) || err != nil {
				t.Fatalf("P11.4: Div(%d, %#x, %#x) = %#x, %v", n, a, b, p, err)
			}
			for _, turned := range []pair{{-a, b}, {a, -b}} {
				if q, err := quot.Div(n, turned.a, turned.b); q != folded(n, -p) || err != nil {
					t.Fatalf("P11.4: Div(%d, %#x, %#x) = %#x, %v, with a sign turned %#x", n, a, b, p, err, q)
				}
			}
		}
	}
}

// ascending are patterns that are no NaR, each of a rank above that of the one ahead of it: all of the width 8, and of the others rows of neighbours, far from one another.
func ascending(n int) []uint64 {
	var l []uint64
	if n == 8 {
		for r := int64(-127); r <= 127; r++ {
			l = append(l, folded(n, uint64(r)))
		}
		return l
	}
	limit := int64(nar(n) - 1)
	step := limit / 150
	for r := -limit; r <= limit-8; r += step {
		for i := range int64(8) {
			l = append(l, folded(n, uint64(r+i)))
		}
		if r > limit-step {
			break
		}
	}
	return append(l, nar(n)-1)
}

// wantAscending wants quotients, one behind the other, in the order of their ranks.
func wantAscending(t *testing.T, n int, l []pair) {
	t.Helper()
	last := int64(math.MinInt64)
	for _, c := range l {
		p, err := quot.Div(n, c.a, c.b)
		if r := rank(n, p); r < last || folded(n, p) == nar(n) || err != nil {
			t.Fatalf("T2: Div(%d, %#x, %#x) = %#x, %v, of the rank %d, behind the rank %d", n, c.a, c.b, p, err, r, last)
		}
		last = rank(n, p)
	}
}

// above are the pairs of a and each number above 0 of an ascending list, in the order in which the quotients ascend: from the greatest divisor on, or, of an a below 0, from the least on.
func above(n int, a uint64, l []uint64) []pair {
	var own []pair
	for _, b := range l {
		if sign(n, b) > 0 {
			own = append(own, pair{a, b})
		}
	}
	if sign(n, a) > 0 {
		slices.Reverse(own)
	}
	return own
}

// P11.2, T2: the greater what is divided by a number above 0, or the less what is divided by one below 0, the greater the quotient; the greater the divisor above 0, the nearer to 0 it is.
func TestOrder(t *testing.T) {
	for _, n := range widths() {
		l := ascending(n)
		for _, a := range append(edges(n), l[:60]...) {
			if a == nar(n) || a == 0 {
				continue
			}
			var by []pair
			for _, b := range l {
				if sign(n, a) < 0 {
					b = -b
				}
				by = append(by, pair{b, a})
			}
			wantAscending(t, n, by)
			wantAscending(t, n, above(n, a, l))
		}
	}
}
