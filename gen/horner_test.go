package gen_test

import (
	"slices"
	"testing"

	"vernier/gen"
)

// wide is a list of patterns of the width 8 with noughts behind them: short strings mean the same in each width.
func wide(n int, l ...uint64) []uint64 {
	m := make([]uint64, len(l))
	for i, p := range l {
		m[i] = p << (n - 8)
	}
	return m
}

// wantHorner wants an answer of Horner at each type of a width.
func wantHorner(t *testing.T, n int, l []uint64, x, want uint64) {
	t.Helper()
	for _, f := range facesOf(n) {
		if p := f.horner(l, x); p != want {
			t.Fatalf("P14.6: Horner[%s](%#x, %#x) = %#x; want %#x", f.name, l, x, p, want)
		}
	}
}

// P14.6: the chapter's examples, with numbers as they are written in a program.
func TestHornerExamples(t *testing.T) {
	var p gen.P8 = gen.Horner([]gen.P8{0x40, 0x40}, 0x48)
	var q gen.P8 = gen.Horner([]gen.P8{}, 0x48)
	var r own16 = gen.Horner([]own16{0x4000, 0x4000}, 0x4800)
	if p != 0x4c || q != 0 || r != 0x4c00 {
		t.Errorf("P14.6: %#x, %#x, %#x", p, q, r)
	}
}

// P14.6: answers told one by one, in each width: no element, one, some; what stands where.
func TestHornerByHand(t *testing.T) {
	for _, n := range widths() {
		at := func(p uint64) uint64 { return p << (n - 8) }
		wantHorner(t, n, nil, at(0x48), 0)
		wantHorner(t, n, nil, nar(n), 0)
		wantHorner(t, n, nil, 0, 0)
		wantHorner(t, n, wide(n, 0x44), at(0x48), at(0x44))
		wantHorner(t, n, wide(n, 0x44), 0, at(0x44))
		wantHorner(t, n, wide(n, 0xbc), most(n), at(0xbc))
		wantHorner(t, n, wide(n, 0), at(0x48), 0)
		wantHorner(t, n, []uint64{most(n)}, most(n), most(n))
		wantHorner(t, n, []uint64{1}, 1, 1)
		wantHorner(t, n, wide(n, 0, 0x40), at(0xbc), at(0xbc))
		wantHorner(t, n, wide(n, 0x40, 0x48), at(0x50), at(0x59))       // 1 and 2 times 4: 9
		wantHorner(t, n, wide(n, 0x48, 0x40), at(0x50), at(0x54))       // 2 and 1 times 4: 6
		wantHorner(t, n, wide(n, 0, 0, 0x40), at(0x4c), at(0x59))       // 3 times 3
		wantHorner(t, n, wide(n, 0xc0, 0, 0x40), at(0x48), at(0x4c))    // 4 less 1
		wantHorner(t, n, wide(n, 0x40, 0xb8, 0x40), at(0x40), 0)        // 1 less 2 and 1
		wantHorner(t, n, wide(n, 0x40, 0x48, 0x40), at(0x48), at(0x59)) // 1 and 2 times 2 and 1 times 4: 9
		wantHorner(t, n, wide(n, 0x40, 0x40, 0x48), at(0x48), at(0x5b)) // 1 and 1 times 2 and 2 times 4: 11
		wantHorner(t, n, wide(n, 0x4c, 0x48, 0x40), at(0x48), at(0x5b)) // 3 and 2 times 2 and 1 times 4: 11
		wantHorner(t, n, wide(n, 0x40, 0x4c, 0x48), 0, at(0x40))
		wantHorner(t, n, []uint64{3 * unity(n), 1}, most(n), 0)       // the least times the greatest, less 1
		wantHorner(t, n, []uint64{0, 0, most(n)}, most(n), most(n))   // beyond the end the greatest stays
		wantHorner(t, n, []uint64{0, 0, 1}, 1, 1)                     // and the least
		wantHorner(t, n, []uint64{0, 0, 1}, folded(n, ^uint64(0)), 1) // with two signs turned
		wantHorner(t, n, []uint64{0, 0, 0, 1}, folded(n, ^uint64(0)), folded(n, ^uint64(0)))
	}
}

// P14.6: a step is fused: 1 + 2^-k squared, less 1 and twice 2^-k, leaves 2^-2k, of which a product rounded first would keep nothing.
func TestHornerIsFused(t *testing.T) {
	for n, want := range map[int]uint64{8: 0x18, 16: 0x0180, 32: 0x00018000, 64: rounded(64, power(-118, unit), unit)} {
		one := unity(n)
		wantHorner(t, n, []uint64{folded(n, -(one + 2)), one + 1}, one+1, want)
	}
}

// coefficients are lists of no, one and many elements: edges, and ones of any, by a fixed rule.
func coefficients(n int) [][]uint64 {
	var l [][]uint64
	e := edges(n)
	next := row(uint64(n) + 9)
	for i := range 1200 {
		var m []uint64
		for j := range i % 12 {
			p := folded(n, next())
			switch (i/12 + j) % 3 {
			case 0:
				p = e[next()>>32%uint64(len(e))]
			case 1:
				// Near 1, where the sums neither run to the ends nor lose all digits.
				p = folded(n, unity(n)+p>>3-nar(n)/8)
			}
			m = append(m, p)
		}
		l = append(l, m)
	}
	return l
}

// P14.6: against sums and products without bounds, step by step; many of them would be wrong if the products were rounded.
func TestHornerAgainstNumbersWithoutAnEnd(t *testing.T) {
	for _, n := range widths() {
		e := edges(n)
		next := row(uint64(n) + 11)
		f := facesOf(n)[0]
		unlike := 0
		for i, l := range coefficients(n) {
			near := folded(n, unity(n)+folded(n, next())>>3-nar(n)/8)
			for _, x := range []uint64{e[i%len(e)], near, folded(n, next())} {
				want := polynomial(n, l, x)
				wantHorner(t, n, l, x, want)
				twiceRounded := uint64(0)
				for _, c := range slices.Backward(l) {
					twiceRounded = f.add(f.mul(twiceRounded, x), c)
				}
				if twiceRounded != want {
					unlike++
				}
			}
		}
		if unlike < 100 {
			t.Errorf("of the width %d only %d would be wrong if each step were rounded twice", n, unlike)
		}
	}
}

// P14.6: many elements: a geometric series, which comes to 2 where the width has room for no more, and one that grows beyond the end.
func TestHornerOfManyElements(t *testing.T) {
	for _, n := range widths() {
		half, two := unity(n)-unity(n)/8, unity(n)+unity(n)/8
		for _, many := range []int{10, 100, 1000, 5000} {
			l := slices.Repeat([]uint64{unity(n)}, many)
			wantHorner(t, n, l, half, polynomial(n, l, half))
			wantHorner(t, n, l, two, polynomial(n, l, two))
		}
		wantHorner(t, n, slices.Repeat([]uint64{unity(n)}, 1000), half, two)
		wantHorner(t, n, slices.Repeat([]uint64{unity(n)}, 1000), two, polynomial(n, slices.Repeat([]uint64{unity(n)}, 999), two))
	}
}

// P14.6: NaR in any place, or as the number that is put in, gives NaR; in a list without elements it isn't taken.
func TestHornerOfNaR(t *testing.T) {
	for _, n := range widths() {
		for size := range 9 {
			l := slices.Repeat([]uint64{unity(n)}, size)
			if size == 0 {
				wantHorner(t, n, l, nar(n), 0)
				continue
			}
			wantHorner(t, n, l, nar(n), nar(n))
			wantHorner(t, n, make([]uint64, size), nar(n), nar(n))
			for place := range size {
				m := slices.Clone(l)
				m[place] = nar(n)
				for _, x := range []uint64{0, 1, unity(n), most(n), nar(n) + 1, nar(n)} {
					wantHorner(t, n, m, x, nar(n))
				}
			}
		}
	}
}

// R4: at each type the list stays as it was, with what stands behind it; a nil one is an empty one.
func TestListStays(t *testing.T) {
	listStays[gen.P8](t)
	listStays[gen.P16](t)
	listStays[gen.P32](t)
	listStays[gen.P64](t)
	listStays[own8](t)
	listStays[own16](t)
	listStays[own32](t)
	listStays[own64](t)
	listStays[late16](t)
	listStays[uint32](t)
}

// listStays hands in lists with room behind them, and wants every element as it was, twice the same answer, and that of a list without room.
func listStays[T gen.Pattern](t *testing.T) {
	t.Helper()
	n := gen.Width[T]()
	if a, b := gen.Horner(nil, T(unity(n))), gen.Horner([]T{}, T(unity(n))); a != 0 || b != 0 {
		t.Errorf("R4: Horner of nil is %#x, of an empty list %#x", a, b)
	}
	for _, l := range coefficients(n) {
		all := listOf[T](append(slices.Clone(l), unity(n), nar(n), most(n)))
		kept := slices.Clone(all)
		x := all[len(all)/2]
		first := gen.Horner(all[:len(l)], x)
		if !slices.Equal(all, kept) {
			t.Fatalf("R4: Horner made %#x of %#x", all, kept)
		}
		if second, other := gen.Horner(all[:len(l)], x), gen.Horner(listOf[T](l), x); second != first || other != first {
			t.Fatalf("R5: Horner(%#x, %#x) = %#x, then %#x, %#x", l, x, first, second, other)
		}
	}
}
