package gen_test

import (
	"cmp"
	"testing"

	"vernier/fuse"
	"vernier/gen"
	"vernier/order"
	"vernier/prod"
	"vernier/quot"
	"vernier/root"
	"vernier/sum"
)

// P14.1: the chapter's types, a caller's own, the language's.
func TestWidth(t *testing.T) {
	if gen.Width[gen.P8]() != 8 || gen.Width[gen.P16]() != 16 || gen.Width[gen.P32]() != 32 || gen.Width[gen.P64]() != 64 {
		t.Errorf("P14.1: %d, %d, %d, %d", gen.Width[gen.P8](), gen.Width[gen.P16](), gen.Width[gen.P32](), gen.Width[gen.P64]())
	}
	for _, f := range faces() {
		if n := f.width(); n != f.n {
			t.Errorf("P14.1: Width[%s]() = %d; want %d", f.name, n, f.n)
		}
	}
}

// P14.1, P14.2, P14.3: the chapter's examples, with numbers as they are written in a program.
func TestExamples(t *testing.T) {
	if p := gen.Add(gen.P8(0x40), gen.P8(0x40)); p != 0x48 {
		t.Errorf("P14.2: Add(1, 1) = %#x", p)
	}
	if c := gen.Cmp(gen.P8(0x80), gen.P8(0)); c != -1 {
		t.Errorf("P14.3: Cmp(NaR, Zero) = %d", c)
	}
	var p gen.P16 = gen.Div[gen.P16](0x4000, 0x4c00)
	var q own16 = gen.Div[own16](0x4000, 0x4c00)
	if p != 0x32ab || q != 0x32ab {
		t.Errorf("P14.2: 1 divided by 3 is %#x, %#x", p, q)
	}
}

// answer is what was answered, and what must be.
type answer struct {
	what      string
	got, want uint64
}

// byHand are answers told one by one: numbers whose strings are short mean the same in each width, with noughts behind them (the ends, which don't, are below).
func byHand(f face) []answer {
	// at is the pattern of the width 8 with noughts behind it.
	at := func(p uint64) uint64 { return p << (f.n - 8) }
	most, below, none := most(f.n), nar(f.n)+1, nar(f.n)
	return []answer{
		{"1 and 1", f.add(at(0x40), at(0x40)), at(0x48)},
		{"1 and -1", f.add(at(0x40), at(0xc0)), 0},
		{"1 and NaR", f.add(at(0x40), none), none},
		{"NaR and Zero", f.add(none, 0), none},
		{"the greatest and itself", f.add(most, most), most},
		{"1 and the least", f.add(at(0x40), 1), at(0x40)},
		{"3 less 1", f.sub(at(0x4c), at(0x40)), at(0x48)},
		{"1 less 3", f.sub(at(0x40), at(0x4c)), at(0xb8)},
		{"Zero less 3/2", f.sub(0, at(0x44)), at(0xbc)},
		{"the least less the greatest", f.sub(1, most), below},
		{"NaR less NaR", f.sub(none, none), none},
		{"2 times 2", f.mul(at(0x48), at(0x48)), at(0x50)},
		{"-1 times 3/2", f.mul(at(0xc0), at(0x44)), at(0xbc)},
		{"Zero times NaR", f.mul(0, none), none},
		{"the greatest times itself", f.mul(most, most), most},
		{"the least times itself", f.mul(1, 1), 1},
		{"the greatest times the least", f.mul(most, 1), at(0x40)},
		{"1 divided by 2", f.div(at(0x40), at(0x48)), at(0x38)},
		{"2 divided by 1", f.div(at(0x48), at(0x40)), at(0x48)},
		{"1 divided by Zero", f.div(at(0x40), 0), none},
		{"Zero divided by 3/2", f.div(0, at(0x44)), 0},
		{"the least divided by the greatest", f.div(1, most), 1},
		{"the greatest divided by the least", f.div(most, 1), most},
		{"the root of 4", f.sqrt(at(0x50)), at(0x48)},
		{"the root of Zero", f.sqrt(0), 0},
		{"the root of -1", f.sqrt(at(0xc0)), none},
		{"the root of NaR", f.sqrt(none), none},
		{"2 times 2 less 1", f.fma(at(0x48), at(0x48), at(0xc0)), at(0x4c)},
		{"1 times 3 and 2", f.fma(at(0x40), at(0x4c), at(0x48)), at(0x52)},
		{"2 times 3 and 1", f.fma(at(0x48), at(0x4c), at(0x40)), at(0x56)},
		{"the greatest times the least less 1", f.fma(most, 1, at(0xc0)), 0},
		{"Zero times Zero and NaR", f.fma(0, 0, none), none},
		{"NaR times Zero and Zero", f.fma(none, 0, 0), none},
		{"Zero times NaR and Zero", f.fma(0, none, 0), none},
		{"the negative of 1", f.neg(at(0x40)), at(0xc0)},
		{"the negative of -3/2", f.neg(at(0xbc)), at(0x44)},
		{"the negative of the greatest", f.neg(most), below},
		{"the negative of the least", f.neg(1), folded(f.n, ^uint64(0))},
		{"the negative of Zero", f.neg(0), 0},
		{"the negative of NaR", f.neg(none), none},
	}
}

// P14.2: answers told one by one, at each type.
func TestArithmeticByHand(t *testing.T) {
	for _, f := range faces() {
		for _, c := range byHand(f) {
			if c.got != c.want {
				t.Errorf("P14.2: %s: %s: %#x; want %#x", f.name, c.what, c.got, c.want)
			}
		}
	}
}

// P14.2: answers that only one of the widths gives.
func TestArithmeticHangsOnTheWidth(t *testing.T) {
	thirds := map[int]uint64{8: 0x33, 16: 0x32ab, 32: 0x32aaaaab, 64: 0x32aaaaaaaaaaaaab}
	roots := map[int]uint64{8: 0x43, 16: 0x4350, 32: 0x43504f33, 64: 0x43504f333f9de648}
	for _, f := range faces() {
		if p := f.div(unity(f.n), 0x4c<<(f.n-8)); p != thirds[f.n] {
			t.Errorf("P14.2: %s: 1 divided by 3 is %#x; want %#x", f.name, p, thirds[f.n])
		}
		if p := f.sqrt(0x48 << (f.n - 8)); p != roots[f.n] {
			t.Errorf("P14.2: %s: the root of 2 is %#x; want %#x", f.name, p, roots[f.n])
		}
	}
}

// layer is a call of a layer below.
type layer func(n int, a, b uint64) (uint64, error)

// P14.2: of two patterns, against what the layers answer in the width, and against numbers without bounds.
func TestCallsOfTwo(t *testing.T) {
	for _, c := range []struct {
		name  string
		of    func(f face) func(a, b uint64) uint64
		layer layer
		want  func(n int, a, b uint64) uint64
	}{
		{"Add", func(f face) func(a, b uint64) uint64 { return f.add }, sum.Add, added},
		{"Sub", func(f face) func(a, b uint64) uint64 { return f.sub }, sum.Sub, subtracted},
		{"Mul", func(f face) func(a, b uint64) uint64 { return f.mul }, prod.Mul, multiplied},
		{"Div", func(f face) func(a, b uint64) uint64 { return f.div }, quot.Div, divided},
	} {
		for _, n := range widths() {
			l := facesOf(n)
			for i, x := range pairs(n) {
				want, err := c.layer(n, x.a, x.b)
				if i%5 == 0 && c.want(n, x.a, x.b) != want || err != nil {
					t.Fatalf("T1: %s of the width %d of %#x, %#x: the layer answers %#x, %v", c.name, n, x.a, x.b, want, err)
				}
				for _, f := range l {
					if p := c.of(f)(x.a, x.b); p != want {
						t.Fatalf("P14.2: %s[%s](%#x, %#x) = %#x; want %#x", c.name, f.name, x.a, x.b, p, want)
					}
				}
			}
		}
	}
}

// P14.2: roots and negatives, against what the layers answer in the width, and against numbers without bounds.
func TestCallsOfOne(t *testing.T) {
	for _, n := range widths() {
		l := facesOf(n)
		for i, a := range patterns(n) {
			edge, err := root.Sqrt(n, a)
			if (n == 8 || i%7 == 0) && rooted(n, a) != edge || err != nil {
				t.Fatalf("T1: the root of %#x of the width %d: the layer answers %#x, %v", a, n, edge, err)
			}
			negative, err := order.Neg(n, a)
			if negative != folded(n, -a) || err != nil {
				t.Fatalf("the negative of %#x of the width %d: the layer answers %#x, %v", a, n, negative, err)
			}
			for _, f := range l {
				if p := f.sqrt(a); p != edge {
					t.Fatalf("P14.2: Sqrt[%s](%#x) = %#x; want %#x", f.name, a, p, edge)
				}
				if p := f.neg(a); p != negative {
					t.Fatalf("P14.2: Neg[%s](%#x) = %#x; want %#x", f.name, a, p, negative)
				}
			}
		}
	}
}

// thirds are what is added to a product: what undoes it but for what was rounded off, an edge, one of any.
func thirds(n int, x pair, i int, next func() uint64) []uint64 {
	e := edges(n)
	undone := folded(n, -multiplied(n, x.a, x.b))
	return []uint64{undone, e[i%len(e)], folded(n, next())}
}

// P14.2: a product and a number, against what the layer answers in the width, and against numbers without bounds.
func TestFma(t *testing.T) {
	for _, n := range widths() {
		l := facesOf(n)
		next := row(uint64(n) + 5)
		unlike := 0
		for i, x := range pairs(n) {
			if i%3 != 0 {
				continue
			}
			for _, c := range thirds(n, x, i, next) {
				want, err := fuse.Fma(n, x.a, x.b, c)
				if i%5 == 0 && fused(n, x.a, x.b, c) != want || err != nil {
					t.Fatalf("T1: Fma of the width %d of %#x, %#x, %#x: the layer answers %#x, %v", n, x.a, x.b, c, want, err)
				}
				for _, f := range l {
					if p := f.fma(x.a, x.b, c); p != want {
						t.Fatalf("P14.2: Fma[%s](%#x, %#x, %#x) = %#x; want %#x", f.name, x.a, x.b, c, p, want)
					}
				}
				if l[0].add(l[0].mul(x.a, x.b), c) != want {
					unlike++
				}
			}
		}
		if unlike < 1000 {
			t.Errorf("of the width %d only %d sums would be wrong if they were rounded twice", n, unlike)
		}
	}
}

// P14.3: by hand, at each type: NaR, Zero, both ends, equal ones.
func TestCmpByHand(t *testing.T) {
	for _, f := range faces() {
		n := f.n
		l := []uint64{nar(n), nar(n) + 1, 3 * unity(n), folded(n, ^uint64(0)), 0, 1, unity(n), unity(n) + 1, most(n)}
		for i, a := range l {
			for j, b := range l {
				if c := f.cmp(a, b); c != cmp.Compare(i, j) {
					t.Errorf("P14.3: Cmp[%s](%#x, %#x) = %d; want %d", f.name, a, b, c, cmp.Compare(i, j))
				}
			}
		}
	}
}

// P14.3: against order.Cmp, and against the ranks.
func TestCmp(t *testing.T) {
	for _, n := range widths() {
		l := facesOf(n)
		for _, x := range pairs(n) {
			want, err := order.Cmp(n, x.a, x.b)
			if want != cmp.Compare(rank(n, x.a), rank(n, x.b)) || err != nil {
				t.Fatalf("Cmp of the width %d of %#x, %#x: the layer answers %d, %v", n, x.a, x.b, want, err)
			}
			for _, f := range l {
				if c := f.cmp(x.a, x.b); c != want {
					t.Fatalf("P14.3: Cmp[%s](%#x, %#x) = %d; want %d", f.name, x.a, x.b, c, want)
				}
			}
		}
	}
}
