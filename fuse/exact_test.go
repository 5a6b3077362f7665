package fuse_test

import (
	"math"
	"math/big"
	"strconv"
	"strings"
	"testing"

	"vernier/api"
	"vernier/fuse"
	"vernier/prod"
	"vernier/round"
)

// turned is the negative of what Exact answers.
func turned(x api.Exact) api.Exact {
	if x.Kind == api.Real {
		x.Neg = !x.Neg
	}
	return x
}

// wantExact wants an answer of Exact, in either order, and of the negatives its negative.
func wantExact(t *testing.T, x, y, want api.Exact) {
	t.Helper()
	for _, c := range [][2]api.Exact{{x, y}, {y, x}} {
		if s, err := fuse.Exact(c[0], c[1]); s != want || err != nil {
			t.Fatalf("P13.1: Exact(%+v, %+v) = %+v, %v; want %+v", c[0], c[1], s, err, want)
		}
		if x.Kind != api.Real || y.Kind != api.Real {
			continue
		}
		if s, err := fuse.Exact(negative(c[0]), negative(c[1])); s != turned(want) || err != nil {
			t.Fatalf("P13.1: of the negatives: Exact(%+v, %+v) = %+v, %v; want %+v", c[0], c[1], s, err, turned(want))
		}
	}
}

// full is a real of which all digits are told.
func full(scale int, hi, lo uint64) api.Exact { return exact(scale, hi, lo, false) }

// P13.1: the chapter's examples, and more by hand: what is carried, borrowed, lost, and where the first digits stand.
func TestExactExamples(t *testing.T) {
	for _, c := range []struct{ x, y, want api.Exact }{
		{full(0, one, 0), negative(full(0, one, 0)), api.Exact{Kind: api.Zero}},
		{full(0, one, 0), full(0, one, 0), full(1, one, 0)},
		{full(0, one, 0), full(-200, one, 0), exact(0, one, 0, true)},
		{full(0, one, 0), negative(full(-200, one, 0)), exact(-1, top, top, true)},
		{full(0, top, top), full(0, top, top), full(1, top, top)},
		{full(0, top, top), full(0, top, top-1), exact(1, top, top-1, true)},
		{full(0, top, top), full(0, top, top-2), full(1, top, top-1)},
		{full(0, top, top), negative(full(0, top, top-1)), full(-127, one, 0)},
		{full(0, one, 1), negative(full(0, one, 0)), full(-127, one, 0)},
		{full(0, one+1, 0), negative(full(0, one, 0)), full(-63, one, 0)},
		{full(0, one+1, 0), negative(full(0, one, 1)), full(-64, top, 0)},
		{full(5, one, 0), negative(full(4, top, top)), full(-123, one, 0)},
		{full(0, 3<<62, 0), negative(full(1, one, 0)), turned(full(-1, one, 0))},
		{full(-7, one, 0), negative(full(-8, one, 0)), full(-8, one, 0)},
		{full(0, one, 0), full(-127, one, 0), full(0, one, 1)},
		{full(0, one, 0), full(-128, one, 0), exact(0, one, 0, true)},
		{full(0, one, 0), full(-128, top, top), exact(0, one, 0, true)},
		{full(0, one, 0), full(-127, one, 1), exact(0, one, 1, true)},
		{full(0, one, 0), full(-64, top, 0), full(0, one, top)},
		{full(0, one, 0), full(-64, top, 1), exact(0, one, top, true)},
		{full(0, one, 0), full(-65, top, 0), exact(0, one, top>>1, true)},
		{full(0, one, 0), full(-65, top-1, 0), full(0, one, top>>1)},
		{full(0, one, 0), full(-1, top, top), exact(0, top, top, true)},
		{full(0, one, 0), negative(full(-127, one, 0)), full(-1, top, top-1)},
		{full(0, one, 0), negative(full(-128, one, 0)), full(-1, top, top)},
		{full(0, one, 0), negative(full(-129, one, 0)), exact(-1, top, top, true)},
		{full(0, one, 0), negative(full(-128, top, top)), exact(-1, top, top-1, true)},
		{full(0, one, 1), negative(full(-127, one, 0)), full(0, one, 0)},
		{full(0, one, 1), negative(full(-128, one, 0)), exact(0, one, 0, true)},
		{full(0, one, 1), negative(full(-200, one, 0)), exact(0, one, 0, true)},
		{full(0, one+1, 0), negative(full(-127, one, 0)), full(0, one, top)},
		{full(0, top, top), full(-127, one, 0), full(1, one, 0)},
		{full(0, top, top), full(-128, one, 0), exact(0, top, top, true)},
		{full(0, top, top), full(-128, top, top), exact(0, top, top, true)},
		{full(0, top, top), full(-127, top, top), exact(1, one, 0, true)},
	} {
		wantExact(t, c.x, c.y, c.want)
	}
}

// summed is what Exact must answer of two reals whose scales aren't far apart, reckoned without bounds, read off the sum's digits as a text.
func summed(x, y api.Exact) api.Exact {
	base := min(x.Scale, y.Scale)
	v := new(big.Int)
	for _, z := range []api.Exact{x, y} {
		w := new(big.Int).SetUint64(z.Hi)
		w.Lsh(w, 64).Add(w, new(big.Int).SetUint64(z.Lo)).Lsh(w, uint(z.Scale-base))
		if z.Neg {
			w.Neg(w)
		}
		v.Add(v, w)
	}
	if v.Sign() == 0 {
		return api.Exact{Kind: api.Zero}
	}
	digits := new(big.Int).Abs(v).Text(2)
	text := digits + strings.Repeat("0", 128)
	hi, _ := strconv.ParseUint(text[:64], 2, 64)
	lo, _ := strconv.ParseUint(text[64:128], 2, 64)
	s := exact(min(max(len(digits)-1+base-127, -farScale), farScale), hi, lo, strings.Contains(text[128:], "1"))
	s.Neg = v.Sign() < 0
	return s
}

// rows are rows of 128 digits: those of powers of two, full ones, single bits at the ends of both words, mixed ones.
func rows() [][2]uint64 {
	l := [][2]uint64{{one, 0}, {one, 1}, {one, one}, {one, top}, {one + 1, 0}, {3 << 62, 0}, {0xaaaaaaaaaaaaaaaa, 0xaaaaaaaaaaaaaaaa},
		{top, top}, {top, top - 1}, {top, 0}, {top - 1, top}, {top, one - 1}, {one | 1<<31, 1 << 32}}
	next := row(3)
	for range 3 {
		l = append(l, [2]uint64{next() | one, next()})
	}
	return l
}

// P13.1: every distance of the scales up to where nothing changes any more, at several places of the row of scales, with all signs.
func TestExactAtEveryDistance(t *testing.T) {
	for d := range 520 {
		for i, f := range rows() {
			for j, g := range rows() {
				scale := []int{0, -1, 7, farScale, d - farScale, -496, 300 + d}[(i+j)%7]
				x, y := full(scale, f[0], f[1]), full(scale-d, g[0], g[1])
				wantExact(t, x, y, summed(x, y))
				wantExact(t, x, negative(y), summed(x, negative(y)))
			}
		}
	}
}

// bit is a row of digits with the first bit and that of the place k, the last being 0.
func bit(k int) [2]uint64 {
	if k >= 64 {
		return [2]uint64{one | 1<<(k-64), 0}
	}
	return [2]uint64{one, 1 << k}
}

// ones is a row of ones down to the place k, and noughts behind it.
func ones(k int) [2]uint64 {
	if k >= 64 {
		return [2]uint64{-(1 << (k - 64)), 0}
	}
	return [2]uint64{top, -(1 << k)}
}

// P13.1: single bits of either term, at the distances where they meet, touch, and part.
func TestExactOfSingleBits(t *testing.T) {
	for _, d := range []int{0, 1, 2, 3, 31, 63, 64, 65, 66, 126, 127, 128, 129, 130, 190, 191, 192, 193, 194, 253, 254, 255, 256, 257, 258} {
		for i := range 128 {
			for j := i % 3; j < 128; j += 3 {
				for _, c := range [][2][2]uint64{{bit(i), bit(j)}, {bit(i), ones(j)}, {ones(i), ones(j)}} {
					x, y := full(3, c[0][0], c[0][1]), full(3-d, c[1][0], c[1][1])
					if (i+j)%2 == 0 {
						y = negative(y)
					}
					want := summed(x, y)
					if s, err := fuse.Exact(x, y); s != want || err != nil {
						t.Fatalf("P13.1: Exact(%+v, %+v) = %+v, %v; want %+v", x, y, s, err, want)
					}
					if s, err := fuse.Exact(y, x); s != want || err != nil {
						t.Fatalf("P13.1: Exact(%+v, %+v) = %+v, %v; want %+v", y, x, s, err, want)
					}
				}
			}
		}
	}
}

// P13.1: terms that nearly cancel: the difference is a few of the last bits, with the scales the same and one apart.
func TestExactOfTermsThatNearlyCancel(t *testing.T) {
	next := row(5)
	for _, scale := range []int{0, 1, -24, 496, farScale, 1 - farScale} {
		for k := range 127 {
			for range 6 {
				f, g := [2]uint64{next() | one, next()}, [2]uint64{}
				// The same digits but for that of the place k and some of those behind it.
				if k >= 64 {
					g = [2]uint64{f[0] ^ 1<<(k-64) ^ next()>>(64-(k-64)), next()}
				} else {
					g = [2]uint64{f[0], f[1] ^ 1<<k ^ next()>>(64-k)}
				}
				x, y := full(scale, f[0], f[1]), negative(full(scale, g[0], g[1]))
				wantExact(t, x, y, summed(x, y))
				// A power of two and a little, less what is just below it.
				h := ones(k)
				x, y = full(scale, one, f[1]>>(63-k/2)), negative(full(scale-1, h[0], h[1]))
				wantExact(t, x, y, summed(x, y))
			}
		}
	}
}

// P13.1: a real and its negative, over all scales.
func TestExactOfANumberAndItsNegative(t *testing.T) {
	for _, scale := range []int{0, 1, -1, 24, -24, 496, -496, 1 << 20, -1 << 20, farScale - 1, farScale, 1 - farScale, -farScale} {
		for _, f := range rows() {
			wantExact(t, full(scale, f[0], f[1]), negative(full(scale, f[0], f[1])), api.Exact{Kind: api.Zero})
		}
	}
}

// farApart is what Exact must answer of a real and a real that is so much nearer to 0 that none of its digits is told: the first one's digits, or, with another sign, those just below.
func farApart(x, y api.Exact) api.Exact {
	s := exact(x.Scale, x.Hi, x.Lo, true)
	switch {
	case x.Neg == y.Neg:
	case x.Hi == one && x.Lo == 0:
		s = exact(max(x.Scale-1, -farScale), top, top, true)
	case x.Lo == 0:
		s = exact(x.Scale, x.Hi-1, top, true)
	default:
		s = exact(x.Scale, x.Hi, x.Lo-1, true)
	}
	s.Neg = x.Neg
	return s
}

// P13.1: scales far apart, up to the bounds of what is sound.
func TestExactOfScalesFarApart(t *testing.T) {
	distances := []int{400, 1023, 1024, 1 << 15, 1<<16 - 1, 1 << 16, 1<<16 + 64}
	for _, d := range distances[:4] {
		for _, f := range rows() {
			x, y := full(d/2, f[0], f[1]), full(d/2-d, f[0], f[1])
			if farApart(x, y) != summed(x, y) || farApart(x, negative(y)) != summed(x, negative(y)) {
				t.Fatalf("the tests' own numbers differ, %d apart, of %#x", d, f)
			}
		}
	}
	for k := 17; k <= 41; k++ {
		for _, more := range []int{-1, 0, 1, 63, 64, 128, 191, 192, 255, 256, 320} {
			distances = append(distances, min(1<<k+more, 2*farScale))
		}
	}
	for _, d := range distances {
		for _, f := range rows() {
			for _, g := range [][2]uint64{{one, 0}, {one, 1}, f, {top, top}} {
				for _, scale := range []int{farScale, d - farScale, d / 2} {
					x, y := full(scale, f[0], f[1]), full(scale-d, g[0], g[1])
					wantExact(t, x, y, farApart(x, y))
					wantExact(t, x, negative(y), farApart(x, negative(y)))
				}
			}
		}
	}
}

// P13.1, R6: where the sum's own scale lies beyond a bound, that is the bound.
func TestExactAtTheBounds(t *testing.T) {
	wantExact(t, full(farScale, top, top), full(farScale, top, top), full(farScale, top, top))
	wantExact(t, full(farScale, one, 0), full(farScale, one, 0), full(farScale, one, 0))
	wantExact(t, full(farScale, top, top), full(farScale-127, one, 0), full(farScale, one, 0))
	wantExact(t, full(farScale-1, top, top), full(farScale-1, top, top), full(farScale, top, top))
	wantExact(t, full(farScale, one, 0), full(-farScale, one, 0), exact(farScale, one, 0, true))
	wantExact(t, full(farScale, one, 0), negative(full(-farScale, top, top)), exact(farScale-1, top, top, true))
	wantExact(t, full(-farScale, one, 0), negative(full(farScale, top, top)), turned(exact(farScale, top, top-1, true)))
	wantExact(t, full(-farScale, one, 0), full(-farScale, one, 0), full(1-farScale, one, 0))
	wantExact(t, full(-farScale, one, 1), negative(full(-farScale, one, 0)), full(-farScale, one, 0))
	wantExact(t, full(-farScale, top, 1), negative(full(-farScale, top, 0)), full(-farScale, one, 0))
	wantExact(t, full(1-farScale, one, 0), negative(full(-farScale, one, 0)), full(-farScale, one, 0))
	wantExact(t, full(1-farScale, one, 0), negative(full(-farScale, one, 1)), full(-farScale, top, top-1))
	wantExact(t, full(1-farScale, one, 0), negative(full(-farScale, top, top)), full(-farScale, one, 0))
	wantExact(t, full(2-farScale, one, 0), negative(full(1-farScale, one, 0)), full(1-farScale, one, 0))
}

// P13.1: Zero and NaR, with one another and with reals.
func TestExactOfZeroAndNaR(t *testing.T) {
	zero, none := api.Exact{Kind: api.Zero}, api.Exact{Kind: api.NaR}
	wantExact(t, zero, zero, zero)
	wantExact(t, zero, none, none)
	wantExact(t, none, none, none)
	for _, scale := range []int{0, 5, -5, farScale, -farScale} {
		for _, f := range rows() {
			x := full(scale, f[0], f[1])
			wantExact(t, x, zero, x)
			wantExact(t, negative(x), zero, negative(x))
			wantExact(t, x, none, none)
			wantExact(t, negative(x), none, none)
		}
	}
}

// refused are Exacts that aren't formed as they must be, and sound ones that have Rest.
func refused() []api.Exact {
	l := []api.Exact{
		{Kind: -1}, {Kind: 3}, {Kind: 4}, {Kind: 257}, {Kind: math.MaxInt}, {Kind: math.MinInt},
		{Kind: 1<<32 + api.Real, Hi: one}, {Kind: 3, Hi: one}, {Kind: -1, Hi: one},
		{Kind: api.Real}, {Kind: api.Real, Neg: true}, {Kind: api.Real, Rest: true}, {Kind: api.Real, Lo: one}, {Kind: api.Real, Lo: top, Rest: true},
	}
	for _, kind := range []int{api.Zero, api.NaR} {
		l = append(l, api.Exact{Kind: kind, Neg: true}, api.Exact{Kind: kind, Scale: 3}, api.Exact{Kind: kind, Scale: -1}, api.Exact{Kind: kind, Hi: 1},
			api.Exact{Kind: kind, Hi: one}, api.Exact{Kind: kind, Lo: 1}, api.Exact{Kind: kind, Lo: one}, api.Exact{Kind: kind, Rest: true},
			api.Exact{Kind: kind, Neg: true, Scale: 1, Hi: one, Lo: top, Rest: true})
	}
	for _, hi := range []uint64{1, 2, 1 << 62, one - 1} {
		l = append(l, full(0, hi, 0), exact(1, hi, top, true), negative(full(5, hi, one)))
	}
	for _, scale := range []int{farScale + 1, farScale + 2, -farScale - 1, -farScale - 2, 1 << 41, -1 << 41, 1 << 62, -1 << 62, math.MaxInt, math.MaxInt - 1, math.MinInt, math.MinInt + 1} {
		l = append(l, full(scale, one, 0), exact(scale, top, top, true), negative(full(scale, top, 1)))
	}
	for _, scale := range []int{0, 1, -1, 200, farScale, -farScale} {
		l = append(l, exact(scale, one, 0, true), negative(exact(scale, top, top, true)), exact(scale, one|1<<32, 1, true))
	}
	return l
}

// P13.1, R6: an Exact that isn't sound, or has Rest, is refused in either place, ahead of what NaR and Zero answer.
func TestExactRefusesWhatIsNotSoundOrHasRest(t *testing.T) {
	others := append(refused(), api.Exact{Kind: api.Zero}, api.Exact{Kind: api.NaR}, full(0, one, 0), negative(full(3, top, top)), full(farScale, one, 0), full(-farScale, one, 0))
	for _, x := range refused() {
		for _, y := range others {
			for _, c := range [][2]api.Exact{{x, y}, {y, x}} {
				if s, err := fuse.Exact(c[0], c[1]); s != (api.Exact{}) || err != api.ErrArg {
					t.Fatalf("P13.1: Exact(%+v, %+v) = %+v, %v; want ErrArg", c[0], c[1], s, err)
				}
			}
		}
	}
}

// P13.1, R6: what Exact answers is sound: round takes it, and so does Exact, with its own negative, if it has no Rest.
func TestExactIsSound(t *testing.T) {
	l := []api.Exact{{Kind: api.Zero}, {Kind: api.NaR}}
	for i, f := range rows() {
		for _, scale := range []int{farScale, farScale - 1, -farScale, 1 - farScale, 100 * i} {
			l = append(l, full(scale, f[0], f[1]), negative(full(scale, f[0], f[1])))
		}
	}
	for _, x := range l {
		for _, y := range l {
			s, err := fuse.Exact(x, y)
			if err != nil {
				t.Fatalf("R6: Exact(%+v, %+v) = %+v, %v", x, y, s, err)
			}
			if _, err := round.Round(8, s); err != nil {
				t.Fatalf("R6: Exact(%+v, %+v) = %+v, which isn't sound", x, y, s)
			}
			if s.Kind == api.Real && !s.Rest {
				wantExact(t, s, negative(s), api.Exact{Kind: api.Zero})
			}
		}
	}
}

// P13.1: of products, which have up to 128 digits: those of numbers of 64 digits, and a difference of two that are alike but for the factors' order.
func TestExactOfProducts(t *testing.T) {
	next := row(9)
	for i := range 3000 {
		a, b := api.Num{Kind: api.Real, Scale: i % 50, Frac: next() | one}, api.Num{Kind: api.Real, Scale: -(i % 61), Frac: next() | one}
		c, d := a, b
		c.Frac, d.Frac = a.Frac^1<<(i%63), b.Frac^1<<(i/63%63)
		p, _ := prod.Exact(a, b)
		q, _ := prod.Exact(c, d)
		r, _ := prod.Exact(b, a)
		wantExact(t, p, q, summed(p, q))
		wantExact(t, p, negative(q), summed(p, negative(q)))
		wantExact(t, p, negative(r), api.Exact{Kind: api.Zero})
	}
}
