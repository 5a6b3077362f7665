package part_test

import (
	"math"
	"math/big"
	"testing"

	"vernier/api"
	"vernier/part"
)

const top = math.MaxUint64

// words are the edges, some powers of two with their neighbours, and a row of mixed ones by a fixed rule.
func words() []uint64 {
	l := []uint64{0, 2, 3, 10, top, top - 1, math.MaxInt64, 1<<63 + 1, 0x5555555555555555, 0xaaaaaaaaaaaaaaaa}
	for _, i := range []int{0, 1, 31, 32, 33, 62, 63} {
		one := uint64(1) << i
		l = append(l, one, one-1, ^one, -one)
	}
	return append(l, mixed(8)...)
}

// mixed are n words by a fixed rule, each of them whole and cut to fewer bits.
func mixed(n int) []uint64 {
	var l []uint64
	x := uint64(3)
	for i := range n {
		x = x*6364136223846793005 + 1442695040888963407
		l = append(l, x, x>>(i*7%63+1))
	}
	return l
}

// twins are all pairs of words, and all powers of two with their neighbours.
func twins() []api.Twin {
	var l []api.Twin
	for _, hi := range words() {
		for _, lo := range words() {
			l = append(l, api.Twin{Hi: hi, Lo: lo})
		}
	}
	one := big.NewInt(1)
	for i := range uint(128) {
		unit := new(big.Int).Lsh(one, i)
		l = append(l, small(unit), small(new(big.Int).Sub(unit, one)), small(new(big.Int).Add(unit, one)))
	}
	return l
}

// great is a's number.
func great(a api.Twin) *big.Int {
	g := new(big.Int).SetUint64(a.Hi)
	return g.Lsh(g, 64).Add(g, word(a.Lo))
}

// word is x's number.
func word(x uint64) *big.Int { return new(big.Int).SetUint64(x) }

// small is a number from 0 to 2^128 - 1 as a pair of words.
func small(g *big.Int) api.Twin {
	return api.Twin{Hi: new(big.Int).Rsh(g, 64).Uint64(), Lo: new(big.Int).And(g, word(top)).Uint64()}
}

// P3.1: ordinary quotients, the greatest that have room, and what is left of them.
func TestDiv(t *testing.T) {
	for _, c := range []struct {
		a       api.Twin
		d       uint64
		q, left uint64
	}{
		{api.Twin{Lo: 7}, 2, 3, 1},
		{api.Twin{Lo: 7}, 7, 1, 0},
		{api.Twin{Lo: 7}, 8, 0, 7},
		{api.Twin{}, 1, 0, 0},
		{api.Twin{}, top, 0, 0},
		{api.Twin{Lo: top}, 1, top, 0},
		{api.Twin{Lo: top}, top, 1, 0},
		{api.Twin{Hi: 1}, 2, 1 << 63, 0},
		{api.Twin{Hi: 1, Lo: 1}, 2, 1 << 63, 1},
		{api.Twin{Hi: 1, Lo: top}, 2, top, 1},
		{api.Twin{Hi: 2, Lo: top}, 3, top, 2},
		{api.Twin{Hi: 1 << 62, Lo: 5}, 1 << 63, 1 << 63, 5},
		{api.Twin{Hi: top - 1}, top, top - 1, top - 1},
		{api.Twin{Hi: top - 1, Lo: 1}, top, top, 0},
		{api.Twin{Hi: top - 1, Lo: top}, top, top, top - 1},
	} {
		if q, left, err := part.Div(c.a, c.d); q != c.q || left != c.left || err != nil {
			t.Errorf("P3.1: Div(%#x, %#x) = %#x, %#x, %v; want %#x, %#x", c.a, c.d, q, left, err, c.q, c.left)
		}
	}
}

// P3.1: nothing is divided by nought, and a quotient of more than 64 bits has no room; nought is told first.
func TestDivRefuses(t *testing.T) {
	for _, c := range []struct {
		a    api.Twin
		d    uint64
		want error
	}{
		{api.Twin{}, 0, api.ErrZero},
		{api.Twin{Lo: 7}, 0, api.ErrZero},
		{api.Twin{Hi: 2}, 0, api.ErrZero},
		{api.Twin{Hi: top, Lo: top}, 0, api.ErrZero},
		{api.Twin{Hi: 1}, 1, api.ErrBig},
		{api.Twin{Hi: 2}, 1, api.ErrBig},
		{api.Twin{Hi: 2}, 2, api.ErrBig},
		{api.Twin{Hi: 2, Lo: 1}, 2, api.ErrBig},
		{api.Twin{Hi: 1 << 63}, 1 << 63, api.ErrBig},
		{api.Twin{Hi: top}, top, api.ErrBig},
		{api.Twin{Hi: top, Lo: top}, top, api.ErrBig},
		{api.Twin{Hi: top, Lo: top}, 1, api.ErrBig},
	} {
		if q, left, err := part.Div(c.a, c.d); q != 0 || left != 0 || err != c.want {
			t.Errorf("P3.1: Div(%#x, %#x) = %#x, %#x, %v; want %v and nothing else", c.a, c.d, q, left, err, c.want)
		}
	}
}

// P3.2: ordinary quotients, of one word and of two, and what is left of them.
func TestLong(t *testing.T) {
	for _, c := range []struct {
		a    api.Twin
		d    uint64
		q    api.Twin
		left uint64
	}{
		{api.Twin{Lo: 7}, 2, api.Twin{Lo: 3}, 1},
		{api.Twin{}, 7, api.Twin{}, 0},
		{api.Twin{Lo: 7}, 8, api.Twin{}, 7},
		{api.Twin{Hi: 2}, 2, api.Twin{Hi: 1}, 0},
		{api.Twin{Hi: 5, Lo: 1}, 3, api.Twin{Hi: 1, Lo: 12297829382473034411}, 0},
		{api.Twin{Hi: 3, Lo: 1}, 2, api.Twin{Hi: 1, Lo: 1 << 63}, 1},
		{api.Twin{Hi: 7, Lo: 9}, 1, api.Twin{Hi: 7, Lo: 9}, 0},
		{api.Twin{Hi: top, Lo: top}, 1, api.Twin{Hi: top, Lo: top}, 0},
		{api.Twin{Hi: top, Lo: top}, 2, api.Twin{Hi: 1<<63 - 1, Lo: top}, 1},
		{api.Twin{Hi: top, Lo: top}, top, api.Twin{Hi: 1, Lo: 1}, 0},
		{api.Twin{Hi: top - 1, Lo: top}, top, api.Twin{Lo: top}, top - 1},
		{api.Twin{Hi: top}, top, api.Twin{Hi: 1}, 0},
		{api.Twin{Hi: top, Lo: top - 1}, top, api.Twin{Hi: 1}, top - 1},
	} {
		if q, left, err := part.Long(c.a, c.d); q != c.q || left != c.left || err != nil {
			t.Errorf("P3.2: Long(%#x, %#x) = %#x, %#x, %v; want %#x, %#x", c.a, c.d, q, left, err, c.q, c.left)
		}
	}
}

// P3.3: divisors of one word and of two, below, at and above the number.
func TestWide(t *testing.T) {
	for _, c := range []struct{ a, d, q, left api.Twin }{
		{api.Twin{Lo: 7}, api.Twin{Lo: 2}, api.Twin{Lo: 3}, api.Twin{Lo: 1}},
		{api.Twin{Hi: 5, Lo: 1}, api.Twin{Lo: 3}, api.Twin{Hi: 1, Lo: 12297829382473034411}, api.Twin{}},
		{api.Twin{Hi: top, Lo: top}, api.Twin{Lo: 1}, api.Twin{Hi: top, Lo: top}, api.Twin{}},
		{api.Twin{}, api.Twin{Hi: 1}, api.Twin{}, api.Twin{}},
		{api.Twin{Lo: top}, api.Twin{Hi: 1}, api.Twin{}, api.Twin{Lo: top}},
		{api.Twin{Hi: 1}, api.Twin{Hi: 1}, api.Twin{Lo: 1}, api.Twin{}},
		{api.Twin{Hi: 1}, api.Twin{Hi: 1, Lo: 1}, api.Twin{}, api.Twin{Hi: 1}},
		{api.Twin{Hi: 1, Lo: 1}, api.Twin{Hi: 1}, api.Twin{Lo: 1}, api.Twin{Lo: 1}},
		{api.Twin{Hi: top}, api.Twin{Hi: 1, Lo: 1}, api.Twin{Lo: top - 1}, api.Twin{Lo: 2}},
		{api.Twin{Hi: top, Lo: top}, api.Twin{Hi: 1}, api.Twin{Lo: top}, api.Twin{Lo: top}},
		{api.Twin{Hi: top, Lo: top}, api.Twin{Hi: 1, Lo: 1}, api.Twin{Lo: top}, api.Twin{}},
		{api.Twin{Hi: top, Lo: top}, api.Twin{Hi: 1, Lo: top}, api.Twin{Lo: 1 << 63}, api.Twin{Lo: 1<<63 - 1}},
		{api.Twin{Hi: top, Lo: top}, api.Twin{Hi: 1 << 63}, api.Twin{Lo: 1}, api.Twin{Hi: 1<<63 - 1, Lo: top}},
		{api.Twin{Hi: top, Lo: top}, api.Twin{Hi: top, Lo: top}, api.Twin{Lo: 1}, api.Twin{}},
		{api.Twin{Hi: top, Lo: top - 1}, api.Twin{Hi: top, Lo: top}, api.Twin{}, api.Twin{Hi: top, Lo: top - 1}},
		{api.Twin{Hi: 9, Lo: 8}, api.Twin{Hi: 4, Lo: 4}, api.Twin{Lo: 2}, api.Twin{Hi: 1}},
		{api.Twin{Hi: 9, Lo: 7}, api.Twin{Hi: 3, Lo: 3}, api.Twin{Lo: 2}, api.Twin{Hi: 3, Lo: 1}},
	} {
		if q, left, err := part.Wide(c.a, c.d); q != c.q || left != c.left || err != nil {
			t.Errorf("P3.3: Wide(%#x, %#x) = %#x, %#x, %v; want %#x, %#x", c.a, c.d, q, left, err, c.q, c.left)
		}
	}
}

// P3.2, P3.3: nothing is divided by nought, whatever is divided.
func TestLongAndWideRefuseNought(t *testing.T) {
	for _, a := range []api.Twin{{}, {Lo: 1}, {Lo: top}, {Hi: 1}, {Hi: 1 << 63}, {Hi: top, Lo: top}} {
		if q, left, err := part.Long(a, 0); q != (api.Twin{}) || left != 0 || err != api.ErrZero {
			t.Errorf("P3.2: Long(%#x, 0) = %#x, %#x, %v; want ErrZero and nothing else", a, q, left, err)
		}
		if q, left, err := part.Wide(a, api.Twin{}); q != (api.Twin{}) || left != (api.Twin{}) || err != api.ErrZero {
			t.Errorf("P3.3: Wide(%#x, 0) = %#x, %#x, %v; want ErrZero and nothing else", a, q, left, err)
		}
	}
}

// P3.1, P3.2, P3.3, P3.5: every number by every word, against quotients without an end; the three tell the same.
func TestQuotientsByWords(t *testing.T) {
	for _, a := range twins() {
		for _, d := range words() {
			if d != 0 {
				checkByWord(t, a, d)
			}
		}
		if t.Failed() {
			return
		}
	}
}

func checkByWord(t *testing.T, a api.Twin, d uint64) {
	want, rest := new(big.Int).QuoRem(great(a), word(d), new(big.Int))
	q, left, err := part.Long(a, d)
	if q != small(want) || left != rest.Uint64() || err != nil {
		t.Errorf("P3.2: Long(%#x, %#x) = %#x, %#x, %v; want %#x, %#x", a, d, q, left, err, want, rest)
	}
	short, over, err := part.Div(a, d)
	if want.BitLen() > 64 {
		if short != 0 || over != 0 || err != api.ErrBig {
			t.Errorf("P3.1: Div(%#x, %#x) = %#x, %#x, %v; want ErrBig and nothing else", a, d, short, over, err)
		}
	} else if short != want.Uint64() || over != rest.Uint64() || err != nil {
		t.Errorf("P3.1: Div(%#x, %#x) = %#x, %#x, %v; want %#x, %#x", a, d, short, over, err, want, rest)
	}
	wide, less, err := part.Wide(a, api.Twin{Lo: d})
	if wide != q || less != (api.Twin{Lo: left}) || err != nil {
		t.Errorf("P3.5: Wide(%#x, %#x) = %#x, %#x, %v; but Long tells %#x, %#x", a, d, wide, less, err, q, left)
	}
}

// P3.3, P3.5: each number by many others, against quotients without an end.
func TestQuotientsByTwins(t *testing.T) {
	l := twins()
	for i, a := range l {
		// Each number meets itself, and others of every kind.
		for j := i; j < len(l)+i; j += 23 {
			checkByTwin(t, a, l[j%len(l)])
		}
		if t.Failed() {
			return
		}
	}
}

// P3.3, P3.5: numbers next to whole multiples of the divisor, where a guessed quotient goes wrong.
func TestQuotientsNextToMultiples(t *testing.T) {
	one := big.NewInt(1)
	for _, d := range twins() {
		for _, q := range words() {
			g := new(big.Int).Mul(great(d), word(q))
			for _, a := range []*big.Int{new(big.Int).Sub(g, one), g, new(big.Int).Add(g, one)} {
				if a.Sign() >= 0 && a.BitLen() <= 128 {
					checkByTwin(t, small(a), d)
				}
			}
		}
		if t.Failed() {
			return
		}
	}
}

func checkByTwin(t *testing.T, a, d api.Twin) {
	if d == (api.Twin{}) {
		return
	}
	ga, gd := great(a), great(d)
	want := new(big.Int).Quo(ga, gd)
	q, left, err := part.Wide(a, d)
	if q != small(want) || err != nil {
		t.Errorf("P3.3: Wide(%#x, %#x) = %#x, %#x, %v; want %#x", a, d, q, left, err, want)
	}
	back := new(big.Int).Mul(great(q), gd)
	if back.Add(back, great(left)).Cmp(ga) != 0 || great(left).Cmp(gd) >= 0 {
		t.Errorf("P3.5: Wide(%#x, %#x) = %#x, %#x; that isn't back at the first", a, d, q, left)
	}
}

// P3.4: nought, squares, and what stands next to them.
func TestRoot(t *testing.T) {
	for _, c := range []struct {
		a    api.Twin
		r    uint64
		left api.Twin
	}{
		{api.Twin{}, 0, api.Twin{}},
		{api.Twin{Lo: 1}, 1, api.Twin{}},
		{api.Twin{Lo: 2}, 1, api.Twin{Lo: 1}},
		{api.Twin{Lo: 3}, 1, api.Twin{Lo: 2}},
		{api.Twin{Lo: 4}, 2, api.Twin{}},
		{api.Twin{Lo: 15}, 3, api.Twin{Lo: 6}},
		{api.Twin{Lo: 16}, 4, api.Twin{}},
		{api.Twin{Lo: top}, 1<<32 - 1, api.Twin{Lo: 1<<33 - 2}},
		{api.Twin{Hi: 1}, 1 << 32, api.Twin{}},
		{api.Twin{Hi: 1, Lo: 1 << 33}, 1 << 32, api.Twin{Lo: 1 << 33}},
		{api.Twin{Hi: 1, Lo: 1<<33 + 1}, 1<<32 + 1, api.Twin{}},
		{api.Twin{Hi: 2}, 6074000999, api.Twin{Lo: 11566105231}},
		{api.Twin{Hi: 1 << 62}, 1 << 63, api.Twin{}},
		{api.Twin{Hi: 1<<62 - 1, Lo: top}, 1<<63 - 1, api.Twin{Lo: top - 1}},
		{api.Twin{Hi: top - 1, Lo: 1}, top, api.Twin{}},
		{api.Twin{Hi: top - 1}, top - 1, api.Twin{Hi: 1, Lo: top - 3}},
		{api.Twin{Hi: top, Lo: top}, top, api.Twin{Hi: 1, Lo: top - 1}},
	} {
		if r, left := part.Root(c.a); r != c.r || left != c.left {
			t.Errorf("P3.4: Root(%#x) = %#x, %#x; want %#x, %#x", c.a, r, left, c.r, c.left)
		}
	}
}

// P3.4, P3.5: every number, against roots without an end.
func TestRootOfAllNumbers(t *testing.T) {
	for _, a := range twins() {
		checkRoot(t, a)
	}
}

// P3.4, P3.5: each word's square, and what is next to it, up to the greatest number that has the word as its root.
func TestRootNextToSquares(t *testing.T) {
	one := big.NewInt(1)
	for _, x := range append(words(), mixed(200)...) {
		g := word(x)
		square := new(big.Int).Mul(g, g)
		most := new(big.Int).Add(square, new(big.Int).Lsh(g, 1))
		for _, a := range []*big.Int{new(big.Int).Sub(square, one), square, new(big.Int).Add(square, one), most, new(big.Int).Add(most, one)} {
			if a.Sign() >= 0 && a.BitLen() <= 128 {
				checkRoot(t, small(a))
			}
		}
	}
}

func checkRoot(t *testing.T, a api.Twin) {
	ga := great(a)
	want := new(big.Int).Sqrt(ga)
	r, left := part.Root(a)
	if r != want.Uint64() {
		t.Errorf("P3.4: Root(%#x) = %#x, %#x; want %#x", a, r, left, want)
	}
	back := new(big.Int).Mul(word(r), word(r))
	if back.Add(back, great(left)).Cmp(ga) != 0 || great(left).Cmp(new(big.Int).Lsh(word(r), 1)) > 0 {
		t.Errorf("P3.5: Root(%#x) = %#x, %#x; that isn't back at the first, or leaves more than twice the root", a, r, left)
	}
}
