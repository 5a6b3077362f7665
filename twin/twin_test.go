package twin_test

import (
	"math"
	"math/big"
	"testing"

	"vernier/api"
	"vernier/twin"
)

const top = math.MaxUint64

// words are the edges, some powers of two with their neighbours, and a row of mixed ones by a fixed rule.
func words() []uint64 {
	l := []uint64{0, 2, 3, top, top - 1, math.MaxInt64, 1<<63 + 1, 0x5555555555555555, 0xaaaaaaaaaaaaaaaa}
	for _, i := range []int{0, 1, 31, 32, 33, 62, 63} {
		one := uint64(1) << i
		l = append(l, one, one-1, ^one, -one)
	}
	x := uint64(2)
	for range 6 {
		x = x*6364136223846793005 + 1442695040888963407
		l = append(l, x, x>>32)
	}
	return l
}

// twins are all pairs of words, and all powers of two with their neighbours.
func twins() []api.Twin {
	var l []api.Twin
	for _, hi := range words() {
		for _, lo := range words() {
			l = append(l, api.Twin{Hi: hi, Lo: lo})
		}
	}
	return append(l, powers()...)
}

// powers are all powers of two below 2^128, each with the number below and the one above.
func powers() []api.Twin {
	one, unit := big.NewInt(1), new(big.Int)
	var l []api.Twin
	for i := range uint(128) {
		unit.Lsh(one, i)
		l = append(l, small(unit), small(new(big.Int).Sub(unit, one)), small(new(big.Int).Add(unit, one)))
	}
	return l
}

// shifts are all that may leave a bit of 128, and greater ones up to the end.
func shifts() []int {
	l := []int{200, 255, 256, 257, 1 << 16, math.MaxInt32, math.MaxInt - 128, math.MaxInt - 64, math.MaxInt - 63, math.MaxInt - 1, math.MaxInt}
	for k := range 132 {
		l = append(l, k)
	}
	return l
}

// refusedShifts are no shifts.
func refusedShifts() []int {
	return []int{-1, -2, -63, -64, -65, -127, -128, -129, math.MinInt32, math.MinInt + 64, math.MinInt + 1, math.MinInt}
}

// great is a's number.
func great(a api.Twin) *big.Int {
	g := new(big.Int).SetUint64(a.Hi)
	return g.Lsh(g, 64).Add(g, new(big.Int).SetUint64(a.Lo))
}

// small is a number modulo 2^128 as a pair of words; what is below nought counts from 2^128 downwards.
func small(g *big.Int) api.Twin {
	mod := new(big.Int).Lsh(big.NewInt(1), 128)
	mod.Mod(g, mod)
	return api.Twin{Hi: new(big.Int).Rsh(mod, 64).Uint64(), Lo: new(big.Int).And(mod, new(big.Int).SetUint64(top)).Uint64()}
}

// P2.1: ordinary sums, carries from word to word, and those out of the number.
func TestAdd(t *testing.T) {
	for _, c := range []struct {
		a, b, want api.Twin
		carry      bool
	}{
		{api.Twin{Lo: 2}, api.Twin{Lo: 3}, api.Twin{Lo: 5}, false},
		{api.Twin{Hi: 1, Lo: 2}, api.Twin{Hi: 3, Lo: 4}, api.Twin{Hi: 4, Lo: 6}, false},
		{api.Twin{Lo: top}, api.Twin{Lo: 1}, api.Twin{Hi: 1}, false},
		{api.Twin{Lo: top}, api.Twin{Lo: top}, api.Twin{Hi: 1, Lo: top - 1}, false},
		{api.Twin{Hi: top, Lo: top}, api.Twin{}, api.Twin{Hi: top, Lo: top}, false},
		{api.Twin{Hi: top, Lo: top}, api.Twin{Lo: 1}, api.Twin{}, true},
		{api.Twin{Hi: top, Lo: top - 1}, api.Twin{Lo: 1}, api.Twin{Hi: top, Lo: top}, false},
		{api.Twin{Hi: top, Lo: top}, api.Twin{Hi: top, Lo: top}, api.Twin{Hi: top, Lo: top - 1}, true},
		{api.Twin{Hi: 1 << 63}, api.Twin{Hi: 1 << 63}, api.Twin{}, true},
		{api.Twin{Hi: top}, api.Twin{Lo: top}, api.Twin{Hi: top, Lo: top}, false},
		{api.Twin{Hi: top, Lo: 1}, api.Twin{Lo: top}, api.Twin{}, true},
		{api.Twin{}, api.Twin{}, api.Twin{}, false},
	} {
		if s, carry := twin.Add(c.a, c.b); s != c.want || carry != c.carry {
			t.Errorf("P2.1: Add(%#x, %#x) = %#x, %v; want %#x, %v", c.a, c.b, s, carry, c.want, c.carry)
		}
	}
}

// P2.2: ordinary differences, borrows from word to word, and those from beyond the number.
func TestSub(t *testing.T) {
	for _, c := range []struct {
		a, b, want api.Twin
		borrow     bool
	}{
		{api.Twin{Lo: 5}, api.Twin{Lo: 3}, api.Twin{Lo: 2}, false},
		{api.Twin{Lo: 3}, api.Twin{Lo: 5}, api.Twin{Hi: top, Lo: top - 1}, true},
		{api.Twin{Hi: 4, Lo: 6}, api.Twin{Hi: 3, Lo: 4}, api.Twin{Hi: 1, Lo: 2}, false},
		{api.Twin{Hi: 1}, api.Twin{Lo: 1}, api.Twin{Lo: top}, false},
		{api.Twin{}, api.Twin{Lo: 1}, api.Twin{Hi: top, Lo: top}, true},
		{api.Twin{}, api.Twin{Hi: top, Lo: top}, api.Twin{Lo: 1}, true},
		{api.Twin{Hi: 1}, api.Twin{Hi: 1, Lo: 1}, api.Twin{Hi: top, Lo: top}, true},
		{api.Twin{Hi: 1, Lo: top}, api.Twin{Hi: 2}, api.Twin{Hi: top, Lo: top}, true},
		{api.Twin{Hi: top, Lo: top}, api.Twin{Hi: top, Lo: top}, api.Twin{}, false},
		{api.Twin{Hi: top, Lo: top}, api.Twin{}, api.Twin{Hi: top, Lo: top}, false},
		{api.Twin{}, api.Twin{}, api.Twin{}, false},
	} {
		if s, borrow := twin.Sub(c.a, c.b); s != c.want || borrow != c.borrow {
			t.Errorf("P2.2: Sub(%#x, %#x) = %#x, %v; want %#x, %v", c.a, c.b, s, borrow, c.want, c.borrow)
		}
	}
}

// P2.3: the higher word counts first, and only like ones let the lower count.
func TestCmp(t *testing.T) {
	for _, c := range []struct {
		a, b api.Twin
		want int
	}{
		{api.Twin{}, api.Twin{}, 0},
		{api.Twin{Hi: 7, Lo: 9}, api.Twin{Hi: 7, Lo: 9}, 0},
		{api.Twin{Lo: 1}, api.Twin{Lo: 2}, -1},
		{api.Twin{Lo: 2}, api.Twin{Lo: 1}, 1},
		{api.Twin{Hi: 1}, api.Twin{Lo: top}, 1},
		{api.Twin{Lo: top}, api.Twin{Hi: 1}, -1},
		{api.Twin{Hi: 7, Lo: 8}, api.Twin{Hi: 7, Lo: 9}, -1},
		{api.Twin{Hi: 7, Lo: top}, api.Twin{Hi: 8}, -1},
		{api.Twin{Hi: 1 << 63}, api.Twin{Hi: 1}, 1},
		{api.Twin{Lo: 1 << 63}, api.Twin{Lo: 1}, 1},
		{api.Twin{Hi: top, Lo: top}, api.Twin{}, 1},
		{api.Twin{}, api.Twin{Hi: top, Lo: top}, -1},
	} {
		if k := twin.Cmp(c.a, c.b); k != c.want {
			t.Errorf("P2.3: Cmp(%#x, %#x) = %d; want %d", c.a, c.b, k, c.want)
		}
	}
}

// P2.1, P2.2, P2.3, P2.9: each number with each, against sums without an end; and back from the sum.
func TestSumsOfAllPairs(t *testing.T) {
	l := twins()
	for i, a := range l {
		// Each number meets itself, and others of every kind.
		for j := i; j < len(l)+i; j += 23 {
			checkSums(t, a, l[j%len(l)])
		}
		if t.Failed() {
			return
		}
	}
}

func checkSums(t *testing.T, a, b api.Twin) {
	ga, gb := great(a), great(b)
	sum := new(big.Int).Add(ga, gb)
	s, carry := twin.Add(a, b)
	if s != small(sum) || carry != (sum.BitLen() > 128) {
		t.Errorf("P2.1: Add(%#x, %#x) = %#x, %v", a, b, s, carry)
	}
	less := new(big.Int).Sub(ga, gb)
	if d, borrow := twin.Sub(a, b); d != small(less) || borrow != (less.Sign() < 0) {
		t.Errorf("P2.2: Sub(%#x, %#x) = %#x, %v", a, b, d, borrow)
	}
	if k := twin.Cmp(a, b); k != ga.Cmp(gb) {
		t.Errorf("P2.3: Cmp(%#x, %#x) = %d; want %d", a, b, k, ga.Cmp(gb))
	}
	if back, borrow := twin.Sub(s, b); back != a || borrow != carry {
		t.Errorf("P2.9: Sub of Add(%#x, %#x) = %#x, %v; want the first, %v", a, b, back, borrow, carry)
	}
}

// P2.4: nought, one, the greatest, and products that fill one word, or both.
func TestMul(t *testing.T) {
	for _, c := range []struct {
		x, y uint64
		want api.Twin
	}{
		{0, 0, api.Twin{}},
		{0, top, api.Twin{}},
		{6, 7, api.Twin{Lo: 42}},
		{1, top, api.Twin{Lo: top}},
		{2, top, api.Twin{Hi: 1, Lo: top - 1}},
		{1 << 32, 1 << 32, api.Twin{Hi: 1}},
		{1<<32 - 1, 1<<32 + 1, api.Twin{Lo: top}},
		{1 << 63, 1 << 63, api.Twin{Hi: 1 << 62}},
		{1 << 63, 2, api.Twin{Hi: 1}},
		{top, top, api.Twin{Hi: top - 1, Lo: 1}},
	} {
		if p := twin.Mul(c.x, c.y); p != c.want {
			t.Errorf("P2.4: Mul(%#x, %#x) = %#x; want %#x", c.x, c.y, p, c.want)
		}
	}
}

// P2.4, P2.9: each word with each: the product, in either order, and of a sum.
func TestMulOfAllPairs(t *testing.T) {
	for _, x := range words() {
		for _, y := range words() {
			p := twin.Mul(x, y)
			if want := small(new(big.Int).Mul(great(api.Twin{Lo: x}), great(api.Twin{Lo: y}))); p != want {
				t.Errorf("P2.4: Mul(%#x, %#x) = %#x; want %#x", x, y, p, want)
			}
			if q := twin.Mul(y, x); q != p {
				t.Errorf("P2.9: Mul(%#x, %#x) = %#x, but in the other order %#x", x, y, p, q)
			}
			for _, z := range words() {
				checkMulOfSum(t, x, y, z)
			}
		}
	}
}

func checkMulOfSum(t *testing.T, x, y, z uint64) {
	if z > top-y {
		return
	}
	want := twin.Mul(x, y+z)
	if s, carry := twin.Add(twin.Mul(x, y), twin.Mul(x, z)); s != want || carry {
		t.Errorf("P2.9: Mul(%#x, %#x + %#x) = %#x, but the products' sum is %#x, %v", x, y, z, want, s, carry)
	}
}

// P2.5: ordinary shifts, those at the words' ends, and those that lose bits.
func TestShl(t *testing.T) {
	for _, c := range []struct {
		a    api.Twin
		k    int
		want api.Twin
		lost bool
	}{
		{api.Twin{Lo: 3}, 0, api.Twin{Lo: 3}, false},
		{api.Twin{Hi: top, Lo: top}, 0, api.Twin{Hi: top, Lo: top}, false},
		{api.Twin{Lo: 3}, 4, api.Twin{Lo: 48}, false},
		{api.Twin{Lo: 3}, 63, api.Twin{Hi: 1, Lo: 1 << 63}, false},
		{api.Twin{Hi: 1, Lo: 3}, 63, api.Twin{Hi: 1<<63 + 1, Lo: 1 << 63}, false},
		{api.Twin{Hi: 2, Lo: 3}, 63, api.Twin{Hi: 1, Lo: 1 << 63}, true},
		{api.Twin{Lo: 3}, 64, api.Twin{Hi: 3}, false},
		{api.Twin{Hi: 1, Lo: 3}, 64, api.Twin{Hi: 3}, true},
		{api.Twin{Lo: 3}, 65, api.Twin{Hi: 6}, false},
		{api.Twin{Lo: 3}, 126, api.Twin{Hi: 3 << 62}, false},
		{api.Twin{Lo: 3}, 127, api.Twin{Hi: 1 << 63}, true},
		{api.Twin{Lo: 2}, 127, api.Twin{}, true},
		{api.Twin{Lo: 1}, 127, api.Twin{Hi: 1 << 63}, false},
		{api.Twin{Lo: 1}, 128, api.Twin{}, true},
		{api.Twin{Hi: 1}, 64, api.Twin{}, true},
		{api.Twin{Lo: 1}, math.MaxInt, api.Twin{}, true},
		{api.Twin{Hi: 1 << 63}, math.MaxInt, api.Twin{}, true},
		{api.Twin{}, 128, api.Twin{}, false},
		{api.Twin{}, math.MaxInt, api.Twin{}, false},
	} {
		if s, lost, err := twin.Shl(c.a, c.k); s != c.want || lost != c.lost || err != nil {
			t.Errorf("P2.5: Shl(%#x, %d) = %#x, %v, %v; want %#x, %v", c.a, c.k, s, lost, err, c.want, c.lost)
		}
	}
}

// P2.6: ordinary shifts, those at the words' ends, and those that leave something.
func TestShr(t *testing.T) {
	for _, c := range []struct {
		a    api.Twin
		k    int
		want api.Twin
		left bool
	}{
		{api.Twin{Lo: 3}, 0, api.Twin{Lo: 3}, false},
		{api.Twin{Hi: top, Lo: top}, 0, api.Twin{Hi: top, Lo: top}, false},
		{api.Twin{Lo: 48}, 4, api.Twin{Lo: 3}, false},
		{api.Twin{Lo: 48}, 5, api.Twin{Lo: 1}, true},
		{api.Twin{Hi: 1, Lo: 1}, 1, api.Twin{Lo: 1 << 63}, true},
		{api.Twin{Hi: 1}, 1, api.Twin{Lo: 1 << 63}, false},
		{api.Twin{Hi: 3}, 63, api.Twin{Lo: 6}, false},
		{api.Twin{Hi: 1 << 63, Lo: 1}, 63, api.Twin{Hi: 1}, true},
		{api.Twin{Hi: 1}, 64, api.Twin{Lo: 1}, false},
		{api.Twin{Hi: 1, Lo: 1}, 64, api.Twin{Lo: 1}, true},
		{api.Twin{Hi: 2}, 65, api.Twin{Lo: 1}, false},
		{api.Twin{Hi: 3}, 65, api.Twin{Lo: 1}, true},
		{api.Twin{Hi: 2, Lo: 1}, 65, api.Twin{Lo: 1}, true},
		{api.Twin{Hi: 1 << 63}, 127, api.Twin{Lo: 1}, false},
		{api.Twin{Hi: 1 << 63}, 128, api.Twin{}, true},
		{api.Twin{Hi: 1}, 200, api.Twin{}, true},
		{api.Twin{Lo: 1}, math.MaxInt, api.Twin{}, true},
		{api.Twin{}, 128, api.Twin{}, false},
		{api.Twin{}, math.MaxInt, api.Twin{}, false},
	} {
		if s, left, err := twin.Shr(c.a, c.k); s != c.want || left != c.left || err != nil {
			t.Errorf("P2.6: Shr(%#x, %d) = %#x, %v, %v; want %#x, %v", c.a, c.k, s, left, err, c.want, c.left)
		}
	}
}

// P2.5, P2.6, P2.9: every number by every shift, against shifts without an end; and back from what was shifted.
func TestShiftsOfAllNumbers(t *testing.T) {
	for _, a := range twins() {
		for _, k := range shifts() {
			checkShl(t, a, k)
			checkShr(t, a, k)
		}
		if t.Failed() {
			return
		}
	}
}

// enough is a shift without an end that does what any greater one does to 128 bits.
func enough(k int) uint { return uint(min(k, 300)) }

func checkShl(t *testing.T, a api.Twin, k int) {
	want := new(big.Int).Lsh(great(a), enough(k))
	s, lost, err := twin.Shl(a, k)
	if s != small(want) || lost != (want.BitLen() > 128) || err != nil {
		t.Errorf("P2.5: Shl(%#x, %d) = %#x, %v, %v", a, k, s, lost, err)
	}
	if back, left, err := twin.Shr(s, k); back != a && !lost || left || err != nil {
		t.Errorf("P2.9: Shr of Shl(%#x, %d) = %#x, %v, %v", a, k, back, left, err)
	}
}

func checkShr(t *testing.T, a api.Twin, k int) {
	g := great(a)
	want := new(big.Int).Rsh(g, enough(k))
	rest := new(big.Int).Sub(g, new(big.Int).Lsh(want, enough(k)))
	s, left, err := twin.Shr(a, k)
	if s != small(want) || left != (rest.Sign() > 0) || err != nil {
		t.Errorf("P2.6: Shr(%#x, %d) = %#x, %v, %v", a, k, s, left, err)
	}
	less, _ := twin.Sub(a, small(rest))
	if back, lost, err := twin.Shl(s, k); back != less || lost || err != nil {
		t.Errorf("P2.9: Shl of Shr(%#x, %d) = %#x, %v, %v; want %#x", a, k, back, lost, err, less)
	}
}

// P2.5, P2.6: there are no shifts below nought, whatever is shifted.
func TestShiftsRefuseCounts(t *testing.T) {
	for _, k := range refusedShifts() {
		for _, a := range []api.Twin{{}, {Lo: 1}, {Hi: 1 << 63}, {Hi: top, Lo: top}} {
			if s, lost, err := twin.Shl(a, k); s != (api.Twin{}) || lost || err != api.ErrArg {
				t.Errorf("P2.5: Shl(%#x, %d) = %#x, %v, %v; want ErrArg and nothing else", a, k, s, lost, err)
			}
			if s, left, err := twin.Shr(a, k); s != (api.Twin{}) || left || err != api.ErrArg {
				t.Errorf("P2.6: Shr(%#x, %d) = %#x, %v, %v; want ErrArg and nothing else", a, k, s, left, err)
			}
		}
	}
}

// P2.7: nought, the words' ends, and every power of two with its neighbours.
func TestLen(t *testing.T) {
	for a, want := range map[api.Twin]int{
		{}: 0, {Lo: 1}: 1, {Lo: 2}: 2, {Lo: 3}: 2, {Lo: 1 << 63}: 64, {Lo: top}: 64,
		{Hi: 1}: 65, {Hi: 1, Lo: top}: 65, {Hi: 2}: 66, {Hi: 1 << 63}: 128, {Hi: top, Lo: top}: 128,
	} {
		if k := twin.Len(a); k != want {
			t.Errorf("P2.7: Len(%#x) = %d; want %d", a, k, want)
		}
	}
	for _, a := range twins() {
		if k := twin.Len(a); k != great(a).BitLen() {
			t.Errorf("P2.7: Len(%#x) = %d; want %d", a, k, great(a).BitLen())
		}
	}
}

// P2.8: nought, the words' ends, and what is at the top as it is.
func TestNorm(t *testing.T) {
	for _, c := range []struct {
		a, want api.Twin
		k       int
	}{
		{api.Twin{}, api.Twin{}, 0},
		{api.Twin{Lo: 1}, api.Twin{Hi: 1 << 63}, 127},
		{api.Twin{Lo: 3}, api.Twin{Hi: 3 << 62}, 126},
		{api.Twin{Lo: 1 << 63}, api.Twin{Hi: 1 << 63}, 64},
		{api.Twin{Lo: top}, api.Twin{Hi: top}, 64},
		{api.Twin{Hi: 1}, api.Twin{Hi: 1 << 63}, 63},
		{api.Twin{Hi: 1, Lo: top}, api.Twin{Hi: top, Lo: 1 << 63}, 63},
		{api.Twin{Hi: 1 << 62, Lo: 1 << 63}, api.Twin{Hi: 1<<63 + 1}, 1},
		{api.Twin{Hi: 1 << 63, Lo: 5}, api.Twin{Hi: 1 << 63, Lo: 5}, 0},
		{api.Twin{Hi: top, Lo: top}, api.Twin{Hi: top, Lo: top}, 0},
	} {
		if w, k := twin.Norm(c.a); w != c.want || k != c.k {
			t.Errorf("P2.8: Norm(%#x) = %#x, %d; want %#x, %d", c.a, w, k, c.want, c.k)
		}
	}
}

// P2.8: every number, against shifts without an end.
func TestNormOfAllNumbers(t *testing.T) {
	for _, a := range twins() {
		g := great(a)
		want := 0
		if g.Sign() > 0 {
			want = 128 - g.BitLen()
		}
		w, k := twin.Norm(a)
		if w != small(g.Lsh(g, uint(want))) || k != want {
			t.Errorf("P2.8: Norm(%#x) = %#x, %d; want the shift by %d", a, w, k, want)
		}
	}
}
