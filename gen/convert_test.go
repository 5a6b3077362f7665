package gen_test

import (
	"math"
	"slices"
	"testing"

	"vernier/api"
	"vernier/gen"
)

// refuseConvert wants ErrWidth, and nothing beside it.
func refuseConvert(t *testing.T, n, m int, p uint64) {
	t.Helper()
	if q, err := gen.Convert(n, m, p); q != 0 || err != api.ErrWidth {
		t.Errorf("P14.5: Convert(%d, %d, %#x) = %#x, %v; want ErrWidth", n, m, p, q, err)
	}
}

// wantConvert wants an answer of Convert, with bits above the width too.
func wantConvert(t *testing.T, n, m int, p, want uint64) {
	t.Helper()
	for _, x := range []uint64{p, dirty(n, p)} {
		if q, err := gen.Convert(n, m, x); q != want || err != nil {
			t.Fatalf("P14.5: Convert(%d, %d, %#x) = %#x, %v; want %#x", n, m, x, q, err, want)
		}
	}
}

// wantBoth wants an answer of Convert, and that of its two's complement.
func wantBoth(t *testing.T, n, m int, p, want uint64) {
	t.Helper()
	wantConvert(t, n, m, p, want)
	wantConvert(t, n, m, folded(n, -p), folded(m, -want))
}

// P14.4: the chapter's examples, with numbers as they are written in a program.
func TestToExamples(t *testing.T) {
	var wide gen.P16 = gen.To[gen.P16](gen.P8(0x44))
	var back gen.P8 = gen.To[gen.P8](gen.P16(0x4401))
	var own own32 = gen.To[own32](late8(0xc0))
	if wide != 0x4400 || back != 0x44 || own != 0xc0000000 {
		t.Errorf("P14.4: %#x, %#x, %#x", wide, back, own)
	}
}

// P14.5: the chapter's examples, the whole's, and more by hand.
func TestConvertExamples(t *testing.T) {
	wantConvert(t, 8, 64, 0x80, 1<<63)
	wantBoth(t, 16, 8, 0x7fff, 0x7f)
	wantBoth(t, 16, 8, 0x0001, 0x01)
	wantBoth(t, 8, 16, 0x44, 0x4400)
	wantBoth(t, 16, 8, 0x4401, 0x44)
	wantBoth(t, 8, 16, 0x7f, 0x7f00)       // 2^24
	wantBoth(t, 8, 64, 0x01, 0x0100<<48)   // 2^-24
	wantBoth(t, 16, 8, 0x7f00, 0x7f)       // 2^24
	wantBoth(t, 16, 8, 0x7eff, 0x7f)       // just below
	wantBoth(t, 16, 8, 0x7e81, 0x7f)       // above 2^22, the tie of 2^20 and 2^24
	wantBoth(t, 16, 8, 0x7e80, 0x7e)       // 2^22
	wantBoth(t, 16, 8, 0x7e7f, 0x7e)       // below it
	wantBoth(t, 16, 8, 0x4080, 0x40)       // 17/16: the tie of 1 and 9/8, to the even one
	wantBoth(t, 16, 8, 0x4180, 0x42)       // 19/16: the tie of 9/8 and 5/4
	wantBoth(t, 16, 8, 0x417f, 0x41)       // just below
	wantBoth(t, 16, 8, 0x0180, 0x02)       // 2^-22: the tie of 2^-24 and 2^-20, to the even one
	wantBoth(t, 16, 8, 0x017f, 0x01)       // just below
	wantBoth(t, 64, 8, 0x4080<<48+1, 0x41) // as little above a tie as there is
	wantBoth(t, 64, 8, 0x4180<<48-1, 0x41) // as little below
	wantBoth(t, 64, 32, 0x40000000<<32, 1<<30)
	wantBoth(t, 64, 32, 0x40000000<<32|1<<31, 1<<30)
	wantBoth(t, 64, 32, 0x40000000<<32|1<<31|1, 1<<30+1)
	wantBoth(t, 64, 32, 0x40000001<<32|1<<31, 1<<30+2)
	wantBoth(t, 32, 32, 0x40000001, 0x40000001)
}

// P14.4, P14.5: Zero is Zero, NaR is NaR, from every width to every one; no real is either.
func TestConvertZeroAndNaR(t *testing.T) {
	for _, n := range widths() {
		for _, m := range widths() {
			wantConvert(t, n, m, 0, 0)
			wantConvert(t, n, m, nar(n), nar(m))
			for _, p := range patterns(n) {
				if q, _ := gen.Convert(n, m, p); (q == 0) != (p == 0) || (q == nar(m)) != (p == nar(n)) {
					t.Fatalf("P14.5: Convert(%d, %d, %#x) = %#x", n, m, p, q)
				}
			}
		}
	}
	for _, f := range faces() {
		for _, w := range f.to {
			if z, x := w.call(0), w.call(nar(f.n)); z != 0 || x != nar(w.m) {
				t.Errorf("P14.4: To[%s, %s] of Zero is %#x, of NaR %#x", w.name, f.name, z, x)
			}
		}
	}
}

// P14.5: widths that are none, in either place, in both, with patterns of each kind.
func TestConvertRefuses(t *testing.T) {
	refuseConvert(t, 8, 12, 0)
	for _, p := range []uint64{0, 1, 0x40, 0x80, 1 << 63, math.MaxUint64} {
		for _, bad := range refusedWidths() {
			for _, n := range widths() {
				refuseConvert(t, bad, n, p)
				refuseConvert(t, n, bad, p)
			}
			refuseConvert(t, bad, bad, p)
			refuseConvert(t, bad, 0, p)
			refuseConvert(t, -1, bad, p)
		}
	}
}

// P14.4, P14.5: from every width to every one, against Round n of the value without bounds: all patterns of the widths 8 and 16, of the others the edges and runs of every length, bits above the width.
func TestConvertAgainstNumbersWithoutAnEnd(t *testing.T) {
	for _, n := range widths() {
		for _, m := range widths() {
			for _, p := range patterns(n) {
				wantConvert(t, n, m, p, converted(n, m, p))
			}
		}
	}
}

// P14.4: from each type to each type, as from its width to the other one.
func TestToFromTypeToType(t *testing.T) {
	for _, f := range faces() {
		all := patterns(f.n)
		for _, w := range f.to {
			for i := 0; i < len(all); i += 1 + len(all)/2000 {
				want := converted(f.n, w.m, all[i])
				if q := w.call(all[i]); q != want {
					t.Fatalf("P14.4: To[%s, %s](%#x) = %#x; want %#x", w.name, f.name, all[i], q, want)
				}
			}
		}
	}
}

// wantTo wants an answer of To, from the types of a width to those of another one.
func wantTo(t *testing.T, n, m int, p, want uint64) {
	t.Helper()
	for _, f := range facesOf(n) {
		for _, w := range f.to {
			if w.m != m {
				continue
			}
			if q := w.call(p); q != want {
				t.Fatalf("P14.4: To[%s, %s](%#x) = %#x; want %#x", w.name, f.name, p, q, want)
			}
		}
	}
}

// P14.4, P14.5: numbers that a lesser width has no room for: all above its greatest value, all below its least.
func TestConvertBeyondTheEnds(t *testing.T) {
	for _, n := range widths() {
		for _, m := range widths() {
			if m >= n {
				continue
			}
			greatest, least := most(m)<<(n-m), uint64(1)<<(n-m)
			for i := 0; i <= n-m; i++ {
				for _, p := range []uint64{greatest, greatest + 1<<i>>1, most(n) - (1<<i - 1)} {
					wantBoth(t, n, m, p, most(m))
				}
				for _, p := range []uint64{1, 1 << i, 1<<i - 1, least - 1<<i + 1} {
					if p != 0 {
						wantBoth(t, n, m, p, 1)
					}
				}
			}
			wantTo(t, n, m, most(n), most(m))
			wantTo(t, n, m, nar(n)+1, nar(m)+1)
			wantTo(t, n, m, 1, 1)
			wantTo(t, n, m, folded(n, ^uint64(0)), folded(m, ^uint64(0)))
		}
	}
}

// ties are the patterns of a width, ahead of the greatest value's, behind which a tie lies: all of the widths 8 and 16, of the others a choice.
func ties(m int) []uint64 {
	var l []uint64
	for _, p := range patterns(m) {
		if p > 0 && p < most(m) {
			l = append(l, p)
		}
	}
	return l
}

// P14.4, P14.5: every tie on the way to a lesser width: the tie itself goes to the even one, what is above it up, what is below it down, both signs.
func TestConvertTies(t *testing.T) {
	for _, n := range widths() {
		for _, m := range widths() {
			if m >= n {
				continue
			}
			for i, p := range ties(m) {
				tie := p<<(n-m) | 1<<(n-m-1)
				wantBoth(t, n, m, tie, p+p%2)
				wantBoth(t, n, m, tie+1, p+1)
				wantBoth(t, n, m, tie-1, p)
				if i%64 < 2 {
					wantTo(t, n, m, tie, p+p%2)
					wantTo(t, n, m, tie+1, p+1)
					wantTo(t, n, m, folded(n, -(tie-1)), folded(m, -p))
				}
			}
		}
	}
}

// P14.7, T3: from a width to a greater one the pattern has noughts behind it, means the same, and comes back; by Convert and by To.
func TestThereAndBack(t *testing.T) {
	for _, n := range widths() {
		for _, m := range widths() {
			if m < n {
				continue
			}
			for _, p := range patterns(n) {
				q, err := gen.Convert(n, m, p)
				if err != nil || q != p<<(m-n) {
					t.Fatalf("P14.7: Convert(%d, %d, %#x) = %#x, %v", n, m, p, q, err)
				}
				if v, w := value(n, p), value(m, q); (v == nil) != (w == nil) || v != nil && v.Cmp(w) != 0 {
					t.Fatalf("P14.7: Convert(%d, %d, %#x) = %#x means another number", n, m, p, q)
				}
				if back, err := gen.Convert(m, n, q); back != p || err != nil {
					t.Fatalf("P14.7: Convert(%d, %d, %#x) = %#x, %v; want %#x", m, n, q, back, err, p)
				}
			}
		}
	}
	thereAndBack[gen.P8, gen.P16](t, 0xff)
	thereAndBack[gen.P8, gen.P64](t, 0xff)
	thereAndBack[gen.P16, gen.P32](t, 0xffff)
	thereAndBack[own16, late64](t, 0xffff)
	thereAndBack[gen.P32, gen.P64](t, 0xffff)
	thereAndBack[late32, own64](t, 0xffff)
}

// thereAndBack wants the patterns up to last, and as many from the other end on, to come back from the type U.
func thereAndBack[T, U gen.Pattern](t *testing.T, last T) {
	t.Helper()
	for p := T(0); p < last; p++ {
		for _, q := range []T{p, -p} {
			if back := gen.To[T](gen.To[U](q)); back != q {
				t.Fatalf("P14.7: %#x of the width %d comes back from %d as %#x", q, gen.Width[T](), gen.Width[U](), back)
			}
		}
	}
}

// ranks are the patterns in the order of their ranks, NaR first: all of the widths 8 and 16, and of the others rows of neighbours at even steps, ties on the way to each lesser width among them.
func ranks(n int) []uint64 {
	var l []uint64
	if n <= 16 {
		for i := range uint64(1) << n {
			l = append(l, folded(n, nar(n)+i))
		}
		return l
	}
	const steps = 2048
	step := nar(n) / (steps / 2)
	for i := range uint64(steps) {
		for _, j := range rowsWithin(n, step) {
			l = append(l, folded(n, nar(n)+i*step+j))
		}
	}
	return l
}

// rowsWithin are, in order, the places in a step round which neighbours stand: its beginning, its end, and where a lesser width's string is cut, behind an even pattern of that width and behind an odd one.
func rowsWithin(n int, step uint64) []uint64 {
	places := []uint64{0, step}
	for _, m := range widths() {
		if m < n {
			places = append(places, 1<<(n-m-1), 3<<(n-m-1))
		}
	}
	var l []uint64
	for _, p := range places {
		for j := p - 4; j != p+5; j++ {
			if j < step {
				l = append(l, j)
			}
		}
	}
	slices.Sort(l)
	return slices.Compact(l)
}

// P14.7, T2: from width to width the order is kept; on the way to a greater one no two become alike, on the way to a lesser one some do.
func TestOrderIsKept(t *testing.T) {
	for _, n := range widths() {
		for _, m := range widths() {
			l := ranks(n)
			before, alike := uint64(0), 0
			for i, p := range l {
				q, err := gen.Convert(n, m, p)
				if err != nil {
					t.Fatalf("P14.7: Convert(%d, %d, %#x): %v", n, m, p, err)
				}
				if i > 0 {
					wantAscending(t, n, m, pair{l[i-1], p}, pair{before, q})
				}
				if i > 0 && before == q {
					alike++
				}
				before = q
			}
			if m < n && alike < 1000 {
				t.Errorf("from the width %d to %d only %d become alike", n, m, alike)
			}
		}
	}
}

// wantAscending wants of two patterns of the width n, of which the second one's rank is the greater one, that those of the width m keep that order; only in a lesser width may they be the same.
func wantAscending(t *testing.T, n, m int, from, to pair) {
	t.Helper()
	if rank(n, from.a) >= rank(n, from.b) {
		t.Fatalf("%#x and %#x of the width %d aren't in order", from.a, from.b, n)
	}
	if a, b := rank(m, to.a), rank(m, to.b); a > b || a == b && m >= n {
		t.Fatalf("P14.7: from the width %d to %d %#x and %#x go to %#x and %#x", n, m, from.a, from.b, to.a, to.b)
	}
}
