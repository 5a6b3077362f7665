package fuse_test

import (
	"math/big"
	"slices"
	"testing"

	"vernier/api"
	"vernier/fuse"
	"vernier/prod"
	"vernier/sum"
)

// four is four patterns, as they are handed in: the factors of two products, or, of the first three, those of one and what is added to it.
type four struct{ a, b, c, d uint64 }

// forms are patterns as they may be handed in: with nothing above the width, and each of them with bits above.
func forms(n int, x four) []four {
	return []four{x, {dirty(n, x.a), x.b, dirty(n, x.c), x.d}, {x.a, dirty(n, x.b), x.c, dirty(n, x.d)}}
}

// wantFma wants an answer of Fma, with the factors in either order, with bits above the width too.
func wantFma(t *testing.T, n int, a, b, c, want uint64) {
	t.Helper()
	for _, x := range append(forms(n, four{a, b, c, 0}), four{b, a, c, 0}) {
		if p, err := fuse.Fma(n, x.a, x.b, x.c); p != want || err != nil {
			t.Fatalf("P13.2: Fma(%d, %#x, %#x, %#x) = %#x, %v; want %#x", n, x.a, x.b, x.c, p, err, want)
		}
	}
}

// wantPair wants an answer of Pair, with the products in either order, with bits above the width too.
func wantPair(t *testing.T, n int, x four, want uint64) {
	t.Helper()
	for _, x := range append(forms(n, x), four{x.c, x.d, x.a, x.b}, four{x.b, x.a, x.c, x.d}, four{x.a, x.b, x.d, x.c}) {
		if p, err := fuse.Pair(n, x.a, x.b, x.c, x.d); p != want || err != nil {
			t.Fatalf("P13.3: Pair(%d, %#x, %#x, %#x, %#x) = %#x, %v; want %#x", n, x.a, x.b, x.c, x.d, p, err, want)
		}
	}
}

// wantCross wants an answer of Cross, with bits above the width too, and its two's complement of the products in the other order.
func wantCross(t *testing.T, n int, x four, want uint64) {
	t.Helper()
	for _, x := range append(forms(n, x), four{x.b, x.a, x.d, x.c}) {
		if p, err := fuse.Cross(n, x.a, x.b, x.c, x.d); p != want || err != nil {
			t.Fatalf("P13.3: Cross(%d, %#x, %#x, %#x, %#x) = %#x, %v; want %#x", n, x.a, x.b, x.c, x.d, p, err, want)
		}
	}
	if p, err := fuse.Cross(n, x.c, x.d, x.a, x.b); p != folded(n, -want) || err != nil {
		t.Fatalf("P13.5: Cross(%d, %#x, %#x, %#x, %#x) = %#x, %v; want %#x", n, x.c, x.d, x.a, x.b, p, err, folded(n, -want))
	}
}

// wantHypot wants an answer of Hypot, in either order, with whatever signs, with bits above the width too.
func wantHypot(t *testing.T, n int, a, b, want uint64) {
	t.Helper()
	l := []four{{a, b, 0, 0}, {b, a, 0, 0}, {dirty(n, a), b, 0, 0}, {a, dirty(n, b), 0, 0}}
	for _, x := range append(l, four{-a, b, 0, 0}, four{a, folded(n, -b), 0, 0}, four{-a, -b, 0, 0}) {
		if p, err := fuse.Hypot(n, x.a, x.b); p != want || err != nil {
			t.Fatalf("P13.4: Hypot(%d, %#x, %#x) = %#x, %v; want %#x", n, x.a, x.b, p, err, want)
		}
	}
}

// P13.2: the chapter's examples and the whole's, and more by hand.
func TestFmaExamples(t *testing.T) {
	wantFma(t, 8, 0x48, 0x48, 0xc0, 0x4c)
	wantFma(t, 8, 0x40, 0x40, 0xc0, 0)
	wantFma(t, 8, 0x7f, 0x01, 0xc0, 0)
	wantFma(t, 8, 0x7f, 0x7f, 0x81, 0x7f) // 2^48 less 2^24
	wantFma(t, 8, 0x7f, 0x7f, 0x7f, 0x7f)
	wantFma(t, 8, 0x7f, 0x81, 0x7f, 0x81)
	wantFma(t, 8, 0x01, 0x01, 0xff, 0xff) // 2^-48 less 2^-24
	wantFma(t, 8, 0x01, 0x01, 0x00, 0x01)
	wantFma(t, 8, 0x01, 0xff, 0x00, 0xff)
	wantFma(t, 8, 0x49, 0x49, 0xae, 0x20) // 81/16 less 5: 1/16
	wantFma(t, 8, 0x49, 0x49, 0xaf, 0x39) // 81/16 less 9/2: 9/16
	wantFma(t, 8, 0x41, 0x41, 0xbe, 0x18) // 81/64 less 5/4: 1/64
	wantFma(t, 8, 0x41, 0x41, 0, 0x42)
	wantFma(t, 8, 0x44, 0x48, 0xb4, 0) // 3/2 times 2 less 3
	wantFma(t, 8, 0, 0x7f, 0x40, 0x40)
	wantFma(t, 8, 0, 0, 0, 0)
	wantFma(t, 8, 0x80, 0, 0, 0x80)
	wantFma(t, 8, 0, 0, 0x80, 0x80)
	wantFma(t, 8, 0x38, 0x38, 0x38, 0x3c) // 1/4 and 1/2
	wantFma(t, 8, 0x38, 0x30, 0x40, 0x41) // 1/8 and 1
	wantFma(t, 8, 0x30, 0x30, 0x40, 0x40) // 1/16 and 1: the tie of 1 and 9/8, to the even one
	wantFma(t, 8, 0x30, 0x30, 0x41, 0x42) // 1/16 and 9/8: likewise
	wantFma(t, 8, 0x30, 0x31, 0x40, 0x41) // more than that tie
	wantFma(t, 8, 0x30, 0x2f, 0x41, 0x41) // less
	wantFma(t, 16, 0x4001, 0x4001, 0xc000, 0x0c00)
	wantFma(t, 16, 0x4001, 0x4001, 0xbffe, 0x0180) // (1 + 2^-11)^2 less 1 + 2^-10: 2^-22
	wantFma(t, 32, 1<<30+1, 1<<30+1, 3<<30-2, 0x00018000)
	wantFma(t, 64, 1<<62+1, 1<<62+1, 3<<62-2, power64(-118))
	wantFma(t, 64, nar(64)-1, 1, 3<<62, 0)
	wantFma(t, 64, 1, 1, 1<<62, 1<<62)
}

// power64 is the pattern of 2^k in the width 64.
func power64(k int) uint64 { return rounded(64, power(k, unit), unit) }

// P13.3: the chapter's examples, and more by hand.
func TestPairAndCrossExamples(t *testing.T) {
	wantPair(t, 8, four{0x48, 0x48, 0x40, 0x40}, 0x52)
	wantPair(t, 8, four{0x48, 0x48, 0x50, 0xc0}, 0)
	wantPair(t, 8, four{0x7f, 0x7f, 0x81, 0x7f}, 0)
	wantPair(t, 8, four{0x7f, 0x7f, 0x7f, 0x7f}, 0x7f)
	wantPair(t, 8, four{0x7f, 0x01, 0x01, 0x81}, 0)
	wantPair(t, 8, four{0x01, 0x01, 0x01, 0x01}, 0x01)
	wantPair(t, 8, four{0x01, 0x01, 0, 0x40}, 0x01)
	wantPair(t, 8, four{0x01, 0x01, 0xff, 0x01}, 0)
	wantPair(t, 8, four{0x01, 0x01, 0x40, 0x40}, 0x40)
	wantPair(t, 8, four{0x01, 0x01, 0x7f, 0x81}, 0x81)
	wantPair(t, 8, four{0, 0x7f, 0x81, 0}, 0)
	wantPair(t, 8, four{0x80, 0, 0, 0}, 0x80)
	wantPair(t, 8, four{0x4c, 0x48, 0x44, 0xb0}, 0)    // 3 times 2 less 3/2 times 4
	wantPair(t, 8, four{0x41, 0x47, 0xbe, 0x44}, 0x2f) // 135/64 less 15/8: 15/64 (of 135/64 rounded first 1/8 would be left)
	wantPair(t, 8, four{0x30, 0x30, 0x41, 0x40}, 0x42) // the tie of 9/8 and 5/4, to the even one
	wantPair(t, 8, four{0x30, 0x30, 0x40, 0x40}, 0x40) // the tie of 1 and 9/8
	wantCross(t, 8, four{0x48, 0x48, 0x40, 0x40}, 0x4c)
	wantCross(t, 8, four{0x7f, 0x7f, 0x7f, 0x7f}, 0)
	wantCross(t, 8, four{0x7f, 0x81, 0x7f, 0x7f}, 0x81)
	wantCross(t, 8, four{0x01, 0x01, 0x01, 0xff}, 0x01)
	wantCross(t, 8, four{0, 0, 0x01, 0x01}, 0xff)
	wantCross(t, 8, four{0, 0, 0x80, 0}, 0x80)
	wantCross(t, 8, four{0, 0, 0x40, 0x44}, 0xbc)
	wantCross(t, 8, four{0x41, 0x41, 0x42, 0x40}, 0x18) // 81/64 less 5/4: 1/64
	wantPair(t, 64, four{1<<62 + 1, 1<<62 + 1, 1<<62 + 2, 3 << 62}, power64(-118))
	wantCross(t, 64, four{1<<62 + 1, 1<<62 + 1, 1<<62 + 2, 1 << 62}, power64(-118))
	wantCross(t, 64, four{1<<62 + 1, 1<<62 + 1, 1 << 62, 1<<62 + 2}, power64(-118))
}

// P13.4: the chapter's examples, and more by hand.
func TestHypotExamples(t *testing.T) {
	wantHypot(t, 8, 0x4c, 0x50, 0x52) // 3 and 4: 5
	wantHypot(t, 8, 0xc0, 0, 0x40)
	wantHypot(t, 8, 0x7f, 0x7f, 0x7f)
	wantHypot(t, 8, 0, 0, 0)
	wantHypot(t, 8, 0x80, 0, 0x80)
	wantHypot(t, 8, 0x80, 0x80, 0x80)
	wantHypot(t, 8, 0x80, 0x7f, 0x80)
	wantHypot(t, 8, 0x7f, 0, 0x7f)
	wantHypot(t, 8, 0x01, 0, 0x01)
	wantHypot(t, 8, 0x01, 0x01, 0x01) // 2^-24 times the root of 2
	wantHypot(t, 8, 0x7f, 0x01, 0x7f)
	wantHypot(t, 8, 0x40, 0x40, 0x43) // the root of 2: 11/8
	wantHypot(t, 8, 0x40, 0x01, 0x40)
	wantHypot(t, 8, 0x52, 0x5c, 0x5d) // 5 and 12: 13
	wantHypot(t, 8, 0x38, 0x3f, 0x40) // 1/2 and 15/16: 17/16, the tie of 1 and 9/8, to the even one
	wantHypot(t, 8, 0x36, 0x44, 0x44) // 7/16 and 3/2: 25/16, the tie of 3/2 and 13/8
	wantHypot(t, 8, 0x37, 0x44, 0x45) // 15/32 and 3/2: more than that tie
	wantHypot(t, 64, 0x4c00000000000000, 0x5000000000000000, 0x5200000000000000)
	wantHypot(t, 64, nar(64)-1, nar(64)-1, nar(64)-1)
	wantHypot(t, 64, 1, 1, 1)
}

// undone is the negative of the product of a and b, rounded: of the two added only what was rounded off is left.
func undone(n int, a, b uint64) uint64 {
	v := product(n, a, b)
	if v == nil {
		return nar(n)
	}
	return folded(n, -rounded(n, v, twice))
}

// mates are pairs of patterns: all of the width 8; of the others the edges with one another, and many patterns with an edge, with themselves and with one of any.
func mates(n int) []four {
	var l []four
	if n == 8 {
		for a := range uint64(256) {
			for b := range a + 1 {
				l = append(l, four{a: a, b: b})
			}
		}
		return l
	}
	e := edges(n)
	for i, a := range e {
		for j := i % 2; j <= i; j += 2 {
			l = append(l, four{a: a, b: e[j]})
		}
	}
	next := row(uint64(n) + 1)
	every := max(2, len(patterns(n))/4000)
	for i, p := range patterns(n) {
		switch i % (2 * every) {
		case 0:
			l = append(l, four{a: p, b: folded(n, next())}, four{a: p, b: p})
		case every:
			l = append(l, four{a: p, b: folded(n, next())}, four{a: p, b: e[i/every%len(e)]})
		}
	}
	return l
}

// triples are mates, each with something to be added: the negative of their product rounded, and beside it; an edge; one of any.
func triples(n int) []four {
	e := edges(n)
	next := row(uint64(n) + 2)
	var l []four
	for i, x := range mates(n) {
		near := undone(n, x.a, x.b)
		switch i % 4 {
		case 0:
			l = append(l, four{x.a, x.b, e[next()>>32%uint64(len(e))], 0})
		case 1:
			l = append(l, four{x.a, x.b, folded(n, near+next()>>61-4), 0})
		case 2:
			l = append(l, four{x.a, x.b, folded(n, next()), 0})
		}
		l = append(l, four{x.a, x.b, near, 0})
	}
	return l
}

// P13.2, T1: against the sum without bounds, rounded as a text: NaR, Zero, both ends, sums that come out as 0, that lose nearly all digits, and that two roundings would have wrong.
func TestFmaAgainstNumbersWithoutAnEnd(t *testing.T) {
	for _, n := range widths() {
		nothing, little, unlike := 0, 0, 0
		for _, x := range triples(n) {
			want := fma(n, x.a, x.b, x.c)
			wantFma(t, n, x.a, x.b, x.c, want)
			switch undone(n, x.a, x.b) {
			case 0, nar(n):
				continue
			case x.c:
				if want == 0 {
					nothing++
				} else {
					little++
				}
			}
			p, _ := prod.Mul(n, x.a, x.b)
			if q, _ := sum.Add(n, p, x.c); q != want {
				unlike++
			}
		}
		if nothing < 100 || little < 10000 || unlike < 10000 {
			t.Errorf("of the width %d %d sums come out as 0, %d lose their first digits, %d would be wrong if they were rounded twice", n, nothing, little, unlike)
		}
	}
}

// fours are mates, each with two factors more: the same turned round, with one sign changed, and beside them; edges; any; the negative of the product rounded, and 1.
func fours(n int) []four {
	e := edges(n)
	next := row(uint64(n) + 3)
	var l []four
	for i, x := range mates(n) {
		a, b := x.a, folded(n, -x.b)
		beside := next()
		switch i % 6 {
		case 0:
			l = append(l, four{x.a, x.b, e[beside>>32%uint64(len(e))], e[beside>>40%uint64(len(e))]})
		case 1:
			l = append(l, four{x.a, x.b, folded(n, a+beside>>62-1), folded(n, b+beside<<2>>62-1)})
		case 2:
			l = append(l, four{x.a, x.b, folded(n, next()), folded(n, next())})
		case 3:
			l = append(l, four{x.a, x.b, b, a})
		case 4:
			l = append(l, four{x.a, x.b, unity(n), undone(n, x.a, x.b)})
		case 5:
			l = append(l, four{x.a, x.b, folded(n, a+1), folded(n, b+1)}, four{x.a, x.b, folded(n, a^beside>>(66-n/2)), b})
		}
	}
	return l
}

// P13.3, T1: against the sum and the difference without bounds, likewise.
func TestPairAndCrossAgainstNumbersWithoutAnEnd(t *testing.T) {
	for _, n := range widths() {
		nothing, something, unlike := 0, 0, 0
		for _, x := range fours(n) {
			want := paired(n, x.a, x.b, x.c, x.d)
			wantPair(t, n, x, want)
			wantCross(t, n, x, crossed(n, x.a, x.b, x.c, x.d))
			wantCross(t, n, four{x.a, x.b, folded(n, -x.c), x.d}, want)
			p, _ := prod.Mul(n, x.a, x.b)
			q, _ := prod.Mul(n, x.c, x.d)
			if p == 0 || p == nar(n) || q == 0 || q == nar(n) {
				continue
			}
			if want == 0 {
				nothing++
			} else {
				something++
			}
			if q, _ := sum.Add(n, p, q); q != want {
				unlike++
			}
		}
		if nothing < 1000 || something < 10000 || unlike < 1000 {
			t.Errorf("of the width %d %d sums come out as 0, %d don't, %d would be wrong if they were rounded twice", n, nothing, something, unlike)
		}
	}
}

// tiedProducts are two patterns each, whose product is the tie of the pattern c and the one behind it.
func tiedProducts(n int) []four {
	var l []four
	next := row(uint64(n) + 5)
	for s := 8 - 4*n; s < 4*n-8; s++ {
		for i := range 40 {
			// So many digits has the tie, at most; so many has the one factor.
			r := stringOf(s, "1")
			digits := max(n+1-len(r), 1)
			few := 1 + int(next()>>32)%digits
			v := new(big.Int).SetUint64(next()>>(64-few) | 1 | 1<<(few-1))
			w := new(big.Int).SetUint64(next()>>(64-max(digits-few+i%2, 1)) | 1)
			half := s / 2
			a, ok := pattern(n, v, half-v.BitLen()+1)
			b, fits := pattern(n, w, s-half-w.BitLen()+1)
			if !ok || !fits {
				continue
			}
			if p, left := cut(n, product(n, a, b).Text(2), twice); left == "1" {
				l = append(l, four{a: a, b: b, c: p})
			}
		}
	}
	return l
}

// P13.2, P13.3: products that are just a tie, and what is added as little as can be, from the least number's square on: that alone tells, behind all digits of the tie.
func TestProductsAtTies(t *testing.T) {
	for _, n := range widths() {
		made := [2]int{}
		least := uint64(1)
		for _, x := range tiedProducts(n) {
			p := x.c
			made[p%2]++
			wantFma(t, n, x.a, x.b, 0, p+p%2)
			wantPair(t, n, four{x.a, x.b, 0, unity(n)}, p+p%2)
			wantPair(t, n, four{x.a, x.b, least, least}, p+1)
			wantPair(t, n, four{x.a, x.b, folded(n, -least), least}, p)
			wantCross(t, n, four{x.a, x.b, least, least}, p)
			wantCross(t, n, four{x.a, x.b, folded(n, -least), least}, p+1)
			wantPair(t, n, four{x.a, folded(n, -x.b), least, least}, folded(n, -p))
			for _, c := range []uint64{1, 2, nar(n) >> (n / 2)} {
				if v := value(n, c); p == 1 || v.Lsh(v, uint(2*n-unit)).Cmp(product(n, x.a, x.b)) > 0 {
					// That isn't little.
					continue
				}
				wantFma(t, n, x.a, x.b, c, p+1)
				wantFma(t, n, x.a, x.b, folded(n, -c), p)
				wantFma(t, n, x.a, folded(n, -x.b), c, folded(n, -p))
				wantFma(t, n, x.a, folded(n, -x.b), folded(n, -c), folded(n, -p-1))
			}
		}
		if slices.Contains(made[:], 0) {
			t.Errorf("of the width %d there are so many ties at even and at odd patterns: %v", n, made)
		}
	}
}

// P13.2: a pattern and half a step, as a product: a tie; with a neighbour as a factor it is more, or less.
func TestFmaAtTies(t *testing.T) {
	for _, n := range widths() {
		p2 := powers(n)
		made := [2]int{}
		next := row(uint64(n) + 6)
		l := edges(n)
		for i := range 60 * n {
			p := folded(n, next()) >> (1 + i%(n-2))
			l = append(l, p, nar(n)-1-p)
		}
		for _, p := range l {
			if p == 0 || p >= nar(n)-1 {
				continue
			}
			half := tie(n, p)
			half.Sub(half, value(n, p))
			s := half.BitLen() - 1 + unit
			if half.Cmp(power(s, unit)) != 0 {
				// The string is cut within the exponent or the run.
				continue
			}
			a, ok := p2[s/2]
			b, fits := p2[s-s/2]
			if !ok || !fits {
				continue
			}
			made[p%2]++
			wantFma(t, n, a, b, p, p+p%2)
			wantFma(t, n, a, folded(n, -b), folded(n, -p), folded(n, -p-p%2))
			wantPair(t, n, four{a, b, unity(n), p}, p+p%2)
			for _, b := range []uint64{b - 1, b + 1, b + b/2} {
				want := fma(n, a, b, p)
				wantFma(t, n, a, b, p, want)
				wantCross(t, n, four{a, b, unity(n), folded(n, -p)}, want)
			}
		}
		if made[0] < 10 || made[1] < 10 {
			t.Errorf("of the width %d there are so many ties at even and at odd patterns: %v", n, made)
		}
	}
}

// P13.4, T1: against the root without bounds, rounded as a text.
func TestHypotAgainstNumbersWithoutAnEnd(t *testing.T) {
	for _, n := range widths() {
		for _, x := range mates(n) {
			wantHypot(t, n, x.a, x.b, hypot(n, x.a, x.b))
		}
	}
}

// legs are two whole numbers each, and that of which the square is the sum of their squares: it has just so many digits, and is odd.
func legs(digits int) [][3]*big.Int {
	var l [][3]*big.Int
	next := row(uint64(digits))
	most := power((digits+1)/2, 0).Uint64()
	for range 1500 {
		m, k := new(big.Int).SetUint64(next()>>32%most), new(big.Int).SetUint64(next()>>32%most)
		f := big.NewInt(int64(next()>>62*2 + 1))
		mm, kk := new(big.Int).Mul(m, m), new(big.Int).Mul(k, k)
		a, c := new(big.Int).Sub(mm, kk), new(big.Int).Add(mm, kk)
		b := new(big.Int).Mul(m, k)
		a.Abs(a).Mul(a, f)
		b.Lsh(b, 1).Mul(b, f)
		c.Mul(c, f)
		if c.Bit(0) == 1 && c.BitLen() == digits && a.Sign() != 0 && b.Sign() != 0 {
			l = append(l, [3]*big.Int{a, b, c})
		}
	}
	return l
}

// P13.4: roots that come out even: of patterns, and ties; with a neighbour of a leg they are more, or less.
func TestHypotThatComesOutEven(t *testing.T) {
	for _, n := range widths() {
		even, ties := 0, [2]int{}
		for digits := n - 3; digits > 2; digits -= 1 + n/32 {
			for _, x := range legs(digits) {
				for _, s := range []int{0, -4, 1 - digits, -n / 2, n / 2, n} {
					a, ok := pattern(n, x[0], s)
					b, fits := pattern(n, x[1], s)
					if !ok || !fits {
						continue
					}
					p, left := cut(n, x[2].Text(2), s)
					switch left {
					case "":
						even++
					case "1":
						ties[p%2]++
					default:
						continue
					}
					if left != "" {
						p += p % 2
					}
					wantHypot(t, n, a, b, p)
					for _, b := range []uint64{b - 1, b + 1} {
						wantHypot(t, n, a, b, hypot(n, a, b))
					}
				}
			}
		}
		if even < 10 || ties[0] < 10 || ties[1] < 10 && n > 8 {
			t.Errorf("of the width %d %d roots are patterns, so many are ties at even and at odd patterns: %v", n, even, ties)
		}
	}
}

// P13.4: roots just above and just below a tie: of a pattern, and of a leg as long as it takes to get there, and of that leg's neighbours.
func TestHypotBesideTies(t *testing.T) {
	for _, n := range widths() {
		made := map[uint64]int{}
		next := row(uint64(n) + 7)
		for i := range 1200 {
			p := folded(n, next()) >> (2 + i%(n/2))
			if i%2 == 0 {
				p = nar(n) - 1 - p
			}
			if p < 2 || p >= nar(n)-1 {
				continue
			}
			for _, a := range []uint64{p, p - 1, p - p>>3} {
				v := tie(n, p)
				v.Mul(v, v).Sub(v, product(n, a, a))
				b := rounded(n, rooted(v), -deep)
				for _, b := range []uint64{b - 1, b, b + 1} {
					if b == 0 || b >= nar(n) {
						continue
					}
					want := hypot(n, a, b)
					wantHypot(t, n, a, b, want)
					made[want-p]++
				}
			}
		}
		if made[0] < 500 || made[1] < 500 {
			t.Errorf("of the width %d so many are below a tie and above it: %v", n, made)
		}
	}
}

// P13.4: the width 64, of roots above a tie by so little that of the sum of squares only the last of its first 128 digits tells it, or what stands behind them.
func TestHypotByTheLastDigits(t *testing.T) {
	made := [2]int{}
	for j := 3; j <= 20; j++ {
		// The shorter leg is c, its square 2^(2 j) m and 1; m is the odd number by which the tie's square is above the longer leg's. In units of 2^-60 the leg is c / 2^j, the tie (m + 1) / 2, which has 61 digits.
		for i := range uint64(40) {
			k := 27<<27>>j/4*4 + 1 + 4*i
			m := k<<(2*j-2)*k + k
			c := k<<(2*j-1) + 1
			if m>>61 != 1 || m%4 != 1 {
				continue
			}
			a, p := unity(64)+m/4-1<<59, unity(64)+m/4-1<<59
			b, ok := pattern(64, new(big.Int).SetUint64(c), -60-j)
			if !ok {
				t.Fatalf("%d times 2^%d is no pattern", c, -60-j)
			}
			v := product(64, a, a)
			v.Add(v, product(64, b, b))
			w := tie(64, p)
			if over := v.Sub(v, w.Mul(w, w)); over.Sign() <= 0 || w.BitLen()-over.BitLen() != 121+2*j {
				t.Fatalf("%#x and %#x: that is no tie and a little", a, b)
			}
			wantHypot(t, 64, a, b, p+1)
			made[p%2]++
		}
	}
	if made[0] < 100 || made[1] < 100 {
		t.Errorf("so many are above ties at even and at odd patterns: %v", made)
	}
}

// P13.2, P13.3, P13.4: NaR in each place, with every edge, Zero among them.
func TestNaR(t *testing.T) {
	for _, n := range widths() {
		e := edges(n)
		for i, p := range e {
			for _, q := range []uint64{0, p, e[(i+1)%len(e)], nar(n)} {
				wantFma(t, n, nar(n), p, q, nar(n))
				wantFma(t, n, p, q, nar(n), nar(n))
				wantPair(t, n, four{nar(n), p, q, p}, nar(n))
				wantPair(t, n, four{p, nar(n), 0, q}, nar(n))
				wantCross(t, n, four{nar(n), p, q, p}, nar(n))
				wantCross(t, n, four{p, q, nar(n), q}, nar(n))
				wantCross(t, n, four{q, p, 0, nar(n)}, nar(n))
			}
			wantHypot(t, n, nar(n), p, nar(n))
		}
	}
}

// P13.2, P13.3, P13.4, R3: a width that is none, with whatever patterns.
func TestWidthsAreRefused(t *testing.T) {
	l := []uint64{0, 1, 0x40, 0x80, 0xc0, 0x8000, unity(64), nar(64), top}
	for _, n := range refusedWidths() {
		for i, a := range l {
			b, c, d := l[(i+1)%len(l)], l[(i*2)%len(l)], l[(i*5+3)%len(l)]
			if p, err := fuse.Fma(n, a, b, c); p != 0 || err != api.ErrWidth {
				t.Fatalf("R3: Fma(%d, %#x, %#x, %#x) = %#x, %v; want ErrWidth", n, a, b, c, p, err)
			}
			if p, err := fuse.Pair(n, a, b, c, d); p != 0 || err != api.ErrWidth {
				t.Fatalf("R3: Pair(%d, %#x, %#x, %#x, %#x) = %#x, %v; want ErrWidth", n, a, b, c, d, p, err)
			}
			if p, err := fuse.Cross(n, a, b, c, d); p != 0 || err != api.ErrWidth {
				t.Fatalf("R3: Cross(%d, %#x, %#x, %#x, %#x) = %#x, %v; want ErrWidth", n, a, b, c, d, p, err)
			}
			if p, err := fuse.Hypot(n, a, b); p != 0 || err != api.ErrWidth {
				t.Fatalf("R3: Hypot(%d, %#x, %#x) = %#x, %v; want ErrWidth", n, a, b, p, err)
			}
		}
	}
}

// P13.5: with 1 Fma is the sum, with Zero the product; Pair with 1 is Fma; Cross of the same turned round is Zero; Hypot of a and Zero is a's absolute value.
func TestWhatFollows(t *testing.T) {
	for _, n := range widths() {
		for i, x := range mates(n) {
			s, _ := sum.Add(n, x.a, x.b)
			p, _ := prod.Mul(n, x.a, x.b)
			wantFma(t, n, unity(n), x.a, x.b, s)
			wantFma(t, n, x.a, x.b, 0, p)
			wantPair(t, n, four{x.a, x.b, 0, unity(n)}, p)
			if p == nar(n) {
				wantCross(t, n, four{x.a, x.b, x.b, x.a}, nar(n))
				continue
			}
			wantCross(t, n, four{x.a, x.b, x.b, x.a}, 0)
			wantPair(t, n, four{x.a, x.b, folded(n, -x.b), x.a}, 0)
			if i%4 == 0 {
				q, _ := fuse.Fma(n, x.a, x.b, x.b)
				wantPair(t, n, four{x.a, x.b, unity(n), x.b}, q)
				wantFma(t, n, folded(n, -x.a), x.b, folded(n, -x.b), folded(n, -q))
			}
		}
		for _, a := range patterns(n) {
			wantHypot(t, n, a, 0, min(a, folded(n, -a)))
		}
	}
}

// some are patterns of Zero and above, each of a rank above that of the one ahead of it.
func some(n int) []uint64 {
	l := ascending(n)
	if len(l) < 1000 {
		return l
	}
	var few []uint64
	for i, p := range l {
		if i%200 < 8 || i < 20 || i > len(l)-20 {
			few = append(few, p)
		}
	}
	return few
}

// P13.2, P13.4, T2: where all else is the same, the sums are in the order of what is added, and of a factor, the roots in that of a leg.
func TestOrder(t *testing.T) {
	for _, n := range widths() {
		for _, a := range edges(n) {
			if a == nar(n) {
				continue
			}
			b := folded(n, a*5+3)
			last := [3]int64{-1 << 63, -1 << 63, -1 << 63}
			for _, c := range some(n) {
				p, err := fuse.Fma(n, a, b, c)
				q, again := fuse.Fma(n, c, unity(n)+5, a)
				r, third := fuse.Hypot(n, a, c)
				if err != nil || again != nil || third != nil {
					t.Fatalf("of the width %d, %#x, %#x and %#x: %v, %v, %v", n, a, b, c, err, again, third)
				}
				now := [3]int64{rank(n, p), rank(n, q), rank(n, r)}
				for i := range now {
					if now[i] < last[i] {
						t.Fatalf("T2: of the width %d, %#x, %#x and %#x: ranks %v behind %v", n, a, b, c, now, last)
					}
				}
				last = now
			}
		}
	}
}
