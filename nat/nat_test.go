package nat_test

import (
	"errors"
	"math"
	"math/big"
	"slices"
	"strings"
	"testing"

	"vernier/api"
	"vernier/nat"
)

const top = math.MaxUint64

// words are the edges of a limb, and a row of mixed ones by a fixed rule.
func words() []uint64 {
	l := []uint64{0, 1, 2, 3, 10, 1<<32 - 1, 1 << 32, 1<<63 - 1, 1 << 63, 1<<63 + 1, top - 1, top}
	x := uint64(7)
	for i := range 6 {
		x = x*6364136223846793005 + 1442695040888963407
		l = append(l, x>>(i*9))
	}
	return l
}

// mixed is a number of so many limbs by a fixed rule, each of them an edge or a mixed word.
func mixed(limbs, seed int) api.Nat {
	l := words()
	x := uint64(seed)
	a := make(api.Nat, limbs)
	for i := range a {
		x = x*6364136223846793005 + 1442695040888963407
		a[i] = l[x>>33%uint64(len(l))]
		if x>>62 == 0 {
			a[i] = x
		}
	}
	return a
}

// numbers are nought, all words, powers of two and of ten with their neighbours, and mixed ones; some with limbs of nought at the end.
func numbers() []api.Nat {
	l := []api.Nat{nil, {}, {0}, {0, 0, 0}, {5, 0}, {0, 7, 0, 0}, {0, 1}, {0, 0, 1}, {top, top}, {top, top, top}, {0, 1 << 63}}
	for _, x := range words() {
		l = append(l, api.Nat{x}, api.Nat{top, x})
	}
	one := big.NewInt(1)
	for _, k := range []uint{63, 64, 65, 127, 128, 129, 191, 192, 256} {
		unit := new(big.Int).Lsh(one, k)
		l = append(l, small(unit), small(new(big.Int).Sub(unit, one)), small(new(big.Int).Add(unit, one)))
	}
	for _, k := range []int64{18, 19, 20, 38, 39, 57} {
		unit := new(big.Int).Exp(big.NewInt(10), big.NewInt(k), nil)
		l = append(l, small(unit), small(new(big.Int).Sub(unit, one)))
	}
	for i := range 24 {
		l = append(l, mixed(i%7+1, i))
	}
	return l
}

// great is a's number.
func great(a api.Nat) *big.Int {
	g := new(big.Int)
	for _, x := range slices.Backward(a) {
		g.Lsh(g, 64).Or(g, new(big.Int).SetUint64(x))
	}
	return g
}

// small is a number from 0 on as limbs, without noughts at the end.
func small(g *big.Int) api.Nat {
	var a api.Nat
	mask := new(big.Int).SetUint64(top)
	for rest := new(big.Int).Set(g); rest.Sign() > 0; rest.Rsh(rest, 64) {
		a = append(a, new(big.Int).And(rest, mask).Uint64())
	}
	return a
}

// check fails, unless an answer is the number that is wanted, without limbs of nought at its end.
func check(t *testing.T, got api.Nat, want *big.Int, what string, args ...any) {
	t.Helper()
	if !slices.Equal(got, small(want)) {
		t.Errorf("%s of %v = %v; want %v", what, args, got, small(want))
	}
}

// P4.1: a number of one limb, and nought as a list without limbs.
func TestOf(t *testing.T) {
	for _, x := range words() {
		check(t, nat.Of(x), new(big.Int).SetUint64(x), "P4.1: Of", x)
	}
	if a := nat.Of(0); len(a) != 0 {
		t.Errorf("P4.1: Of(0) = %v; want no limbs", a)
	}
}

// P4.1: lengths in bits, whatever noughts stand at the end.
func TestBits(t *testing.T) {
	for _, c := range []struct {
		a    api.Nat
		want int
	}{
		{nil, 0}, {api.Nat{}, 0}, {api.Nat{0}, 0}, {api.Nat{0, 0}, 0},
		{api.Nat{1}, 1}, {api.Nat{2}, 2}, {api.Nat{3}, 2}, {api.Nat{top}, 64}, {api.Nat{1 << 63}, 64},
		{api.Nat{0, 1}, 65}, {api.Nat{top, 1}, 65}, {api.Nat{0, top}, 128}, {api.Nat{1, 0}, 1}, {api.Nat{0, 1, 0, 0}, 65},
	} {
		if got := nat.Bits(c.a); got != c.want {
			t.Errorf("P4.1: Bits(%v) = %d; want %d", c.a, got, c.want)
		}
	}
	for _, a := range numbers() {
		if got, want := nat.Bits(a), great(a).BitLen(); got != want {
			t.Errorf("P4.1: Bits(%v) = %d; want %d", a, got, want)
		}
	}
}

// P4.1: below, the same, above; limbs of nought at an end don't count.
func TestCmp(t *testing.T) {
	for _, c := range []struct {
		a, b api.Nat
		want int
	}{
		{api.Nat{1, 0}, api.Nat{1}, 0}, {nil, api.Nat{0, 0}, 0}, {api.Nat{1, 0, 0}, api.Nat{2}, -1}, {api.Nat{2}, api.Nat{1, 0, 0}, 1},
		{api.Nat{9, 1}, api.Nat{1, 2}, -1}, {api.Nat{1, 2}, api.Nat{9, 1}, 1}, {api.Nat{1, 2}, api.Nat{2, 2}, -1},
		{api.Nat{1 << 63}, api.Nat{1}, 1}, {api.Nat{0, 1}, api.Nat{top}, 1}, {nil, api.Nat{1}, -1},
	} {
		if got := nat.Cmp(c.a, c.b); got != c.want {
			t.Errorf("P4.1: Cmp(%v, %v) = %d; want %d", c.a, c.b, got, c.want)
		}
	}
	for _, a := range numbers() {
		for _, b := range numbers() {
			if got, want := nat.Cmp(a, b), great(a).Cmp(great(b)); got != want {
				t.Errorf("P4.1: Cmp(%v, %v) = %d; want %d", a, b, got, want)
			}
		}
	}
}

// P4.2: sums and products of none, of one, and of two.
func TestSumsOfFew(t *testing.T) {
	check(t, nat.Add(), big.NewInt(0), "P4.2: Add")
	check(t, nat.Mul(), big.NewInt(1), "P4.2: Mul")
	var none []api.Nat
	check(t, nat.Add(none...), big.NewInt(0), "P4.2: Add")
	check(t, nat.Mul(none...), big.NewInt(1), "P4.2: Mul")
	for _, a := range numbers() {
		x := great(a)
		check(t, nat.Add(a), x, "P4.2: Add", a)
		check(t, nat.Mul(a), x, "P4.2: Mul", a)
		for _, b := range numbers() {
			y := great(b)
			check(t, nat.Add(a, b), new(big.Int).Add(x, y), "P4.2: Add", a, b)
			check(t, nat.Mul(a, b), new(big.Int).Mul(x, y), "P4.2: Mul", a, b)
		}
	}
}

// P4.2: sums and products of many, in either order, with noughts among them, and of long ones.
func TestSumsOfMany(t *testing.T) {
	long := []api.Nat{mixed(200, 1), mixed(1, 2), mixed(333, 3), slices.Repeat(api.Nat{top}, 100)}
	for _, l := range [][]api.Nat{
		{{1 << 63}, {2}, {3}}, {{top}, {top}, {top}}, {{1}, {top, top, top}}, {{top, top, top}, {1}}, {{top}, {1}, nil, {0, 0}, {5, 0}},
		{{1}, {1}, {1}, {1}}, {{0}, {7}}, {{7}, {0}}, {nil, nil}, slices.Repeat([]api.Nat{{top, top}}, 300), long, numbers()[11:],
	} {
		sum, product := new(big.Int), big.NewInt(1)
		for _, a := range l {
			sum.Add(sum, great(a))
			product.Mul(product, great(a))
		}
		check(t, nat.Add(l...), sum, "P4.2: Add", len(l))
		check(t, nat.Mul(l...), product, "P4.2: Mul", len(l))
		turned := slices.Clone(l)
		slices.Reverse(turned)
		check(t, nat.Add(turned...), sum, "P4.2: Add turned", len(l))
		check(t, nat.Mul(turned...), product, "P4.2: Mul turned", len(l))
	}
}

// P4.2: a nought makes the product nought, however great the others' product were.
func TestMulByNought(t *testing.T) {
	many := slices.Repeat([]api.Nat{slices.Repeat(api.Nat{top}, 1<<16)}, 1<<16)
	check(t, nat.Mul(append(many, api.Nat{0, 0})...), big.NewInt(0), "P4.2: Mul")
}

// P4.3: differences, with borrows through all limbs, and the refusal below nought.
func TestSub(t *testing.T) {
	for _, a := range numbers() {
		for _, b := range numbers() {
			got, err := nat.Sub(a, b)
			want := new(big.Int).Sub(great(a), great(b))
			if want.Sign() < 0 {
				if got != nil || err != api.ErrBelow {
					t.Errorf("P4.3: Sub(%v, %v) = %v, %v; want ErrBelow and nothing else", a, b, got, err)
				}
				continue
			}
			check(t, got, want, "P4.3: Sub", a, b)
			if err != nil {
				t.Errorf("P4.3: Sub(%v, %v): %v", a, b, err)
			}
		}
	}
	for _, c := range []struct{ a, b, want api.Nat }{
		{api.Nat{5, 0}, api.Nat{3}, api.Nat{2}},
		{api.Nat{3}, api.Nat{3, 0, 0}, nil},
		{api.Nat{0, 0, 0, 1}, api.Nat{1}, api.Nat{top, top, top}},
		{api.Nat{0, 0, 1}, api.Nat{0, 1}, api.Nat{0, top}},
	} {
		if got, err := nat.Sub(c.a, c.b); !slices.Equal(got, c.want) || err != nil {
			t.Errorf("P4.3: Sub(%v, %v) = %v, %v; want %v", c.a, c.b, got, err, c.want)
		}
	}
}

// P4.4, P4.9: quotients and what is left of them, of all pairs; the two together are a again.
func TestDiv(t *testing.T) {
	for _, a := range numbers() {
		for _, b := range numbers() {
			checkDiv(t, a, b)
		}
	}
	for _, c := range [][2]int{{200, 100}, {200, 1}, {150, 149}, {99, 100}, {500, 30}} {
		for seed := range 5 {
			checkDiv(t, mixed(c[0], seed), mixed(c[1], seed+50))
		}
	}
	q, left, _ := nat.Div(api.Nat{0, 0, 1}, api.Nat{10})
	if s, r := nat.Text(q), nat.Text(left); s != "34028236692093846346337460743176821145" || r != "6" {
		t.Errorf("P4.4: Div(2^128, 10) = %s, %s", s, r)
	}
}

// checkDiv holds what Div answers against numbers without an end, and against P4.9.
func checkDiv(t *testing.T, a, b api.Nat) {
	t.Helper()
	q, left, err := nat.Div(a, b)
	if great(b).Sign() == 0 {
		if q != nil || left != nil || err != api.ErrZero {
			t.Errorf("P4.4: Div(%v, %v) = %v, %v, %v; want ErrZero and nothing else", a, b, q, left, err)
		}
		return
	}
	wantQ, wantLeft := new(big.Int).QuoRem(great(a), great(b), new(big.Int))
	check(t, q, wantQ, "P4.4: Div", a, b)
	check(t, left, wantLeft, "P4.4: Div's rest", a, b)
	if err != nil {
		t.Errorf("P4.4: Div(%v, %v): %v", a, b, err)
	}
	if back := nat.Add(nat.Mul(b, q), left); nat.Cmp(back, a) != 0 || nat.Cmp(left, b) >= 0 {
		t.Errorf("P4.9: Div(%v, %v) = %v, %v: together %v", a, b, q, left, back)
	}
}

// P4.4: quotients whose limbs are the greatest or the least, with the greatest rests: where a guess from the upper limbs is too great.
func TestDivGuesses(t *testing.T) {
	parts := []uint64{0, 1, 1<<63 - 1, 1 << 63, top - 1, top}
	one := big.NewInt(1)
	for _, hi := range parts[1:] {
		for _, lo := range parts {
			for _, lowest := range []api.Nat{nil, {0}, {top}} {
				b := append(slices.Clone(lowest), lo, hi)
				d := great(b)
				for _, x := range parts {
					for _, y := range parts {
						product := new(big.Int).Mul(great(api.Nat{x, y}), d)
						checkDiv(t, small(product), b)
						checkDiv(t, small(product.Add(product, d).Sub(product, one)), b)
					}
				}
			}
		}
	}
}

// P4.5: shifts upwards by all sorts of places, up to the bound.
func TestShl(t *testing.T) {
	for _, a := range numbers() {
		for _, k := range []int{0, 1, 2, 31, 32, 62, 63, 64, 65, 127, 128, 129, 192, 1000, 65472, 65535, 65536} {
			got, err := nat.Shl(a, k)
			check(t, got, new(big.Int).Lsh(great(a), uint(k)), "P4.5: Shl", a, k)
			if err != nil {
				t.Errorf("P4.5: Shl(%v, %d): %v", a, k, err)
			}
		}
	}
	if got, err := nat.Shl(api.Nat{3}, 65); !slices.Equal(got, api.Nat{0, 6}) || err != nil {
		t.Errorf("P4.5: Shl(3, 65) = %v, %v; want [0 6]", got, err)
	}
}

// P4.5: no shift upwards by less than nought, nor by more than the bound, of nought neither.
func TestShlRefuses(t *testing.T) {
	for _, a := range []api.Nat{nil, {}, {0}, {1}, {1, 2, 3}} {
		for k, want := range map[int]error{
			-1: api.ErrArg, -64: api.ErrArg, -65537: api.ErrArg, math.MinInt: api.ErrArg,
			65537: api.ErrLong, 65600: api.ErrLong, 1 << 40: api.ErrLong, math.MaxInt: api.ErrLong,
		} {
			if got, err := nat.Shl(a, k); got != nil || err != want {
				t.Errorf("P4.5: Shl(%v, %d) = %v, %v; want %v and nothing else", a, k, got, err, want)
			}
		}
	}
}

// P4.5: shifts downwards by any number of places, with what is left below them.
func TestShr(t *testing.T) {
	for _, a := range numbers() {
		places := []int{1000, 65536, 65537, 1 << 40, math.MaxInt - 64, math.MaxInt}
		for k := range nat.Bits(a) + 70 {
			places = append(places, k)
		}
		for _, k := range places {
			got, left, err := nat.Shr(a, k)
			want := new(big.Int).Rsh(great(a), uint(min(k, 1000)))
			check(t, got, want, "P4.5: Shr", a, k)
			gone := new(big.Int).Lsh(want, uint(min(k, 1000))).Cmp(great(a)) != 0
			if left != gone || err != nil {
				t.Errorf("P4.5: Shr(%v, %d) tells %v, %v; want %v", a, k, left, err, gone)
			}
		}
	}
}

// P4.5: which bits are left behind, in the limb that is cut and in those below it; and no shift by less than nought.
func TestShrEdges(t *testing.T) {
	for _, c := range []struct {
		a    api.Nat
		k    int
		want api.Nat
		left bool
		err  error
	}{
		{api.Nat{1, 6}, 65, api.Nat{3}, true, nil},
		{api.Nat{0, 6}, 65, api.Nat{3}, false, nil},
		{api.Nat{0, 7}, 65, api.Nat{3}, true, nil},
		{api.Nat{5}, 1 << 40, nil, true, nil},
		{nil, 1 << 40, nil, false, nil},
		{api.Nat{0, 0}, math.MaxInt, nil, false, nil},
		{api.Nat{1, 1}, 64, api.Nat{1}, true, nil},
		{api.Nat{0, 1}, 64, api.Nat{1}, false, nil},
		{api.Nat{1 << 63}, 63, api.Nat{1}, false, nil},
		{api.Nat{1 << 63}, 64, nil, true, nil},
		{api.Nat{1<<63 | 1}, 63, api.Nat{1}, true, nil},
		{api.Nat{3, 0}, 1, api.Nat{1}, true, nil},
		{api.Nat{3, 0}, 0, api.Nat{3}, false, nil},
		{api.Nat{0, 1, 0, 1}, 128, api.Nat{0, 1}, true, nil},
		{api.Nat{1}, -1, nil, false, api.ErrArg},
		{nil, -1, nil, false, api.ErrArg},
		{api.Nat{1, 2}, -64, nil, false, api.ErrArg},
		{api.Nat{1, 2}, math.MinInt, nil, false, api.ErrArg},
	} {
		got, left, err := nat.Shr(c.a, c.k)
		if !slices.Equal(got, c.want) || left != c.left || err != c.err || err != nil && got != nil {
			t.Errorf("P4.5: Shr(%v, %d) = %v, %v, %v; want %v, %v, %v", c.a, c.k, got, left, err, c.want, c.left, c.err)
		}
	}
}

// P4.9: up and down again by as many places nothing is lost.
func TestShiftsBack(t *testing.T) {
	for _, a := range numbers() {
		for _, k := range []int{0, 1, 63, 64, 65, 130, 65536} {
			s, _ := nat.Shl(a, k)
			if back, left, err := nat.Shr(s, k); nat.Cmp(back, a) != 0 || left || err != nil {
				t.Errorf("P4.9: Shr of Shl(%v, %d) = %v, %v, %v", a, k, back, left, err)
			}
		}
	}
}

// P4.6, P4.9: upper bits of all lengths, of shorter numbers, as short ones, and longer ones.
func TestTop(t *testing.T) {
	for _, a := range append(numbers(), mixed(40, 9), append(make(api.Nat, 30), 1), append(make(api.Nat, 30), top)) {
		for k := 1; k <= 64; k++ {
			checkTop(t, a, k)
		}
	}
	for _, c := range []struct {
		a     api.Nat
		k     int
		upper uint64
		below int
		left  bool
	}{
		{api.Nat{13}, 2, 3, 2, true},
		{api.Nat{12}, 2, 3, 2, false},
		{api.Nat{3}, 64, 3, 0, false},
		{api.Nat{3}, 2, 3, 0, false},
		{api.Nat{3}, 1, 1, 1, true},
		{api.Nat{2, 0}, 1, 1, 1, false},
		{api.Nat{top}, 64, top, 0, false},
		{api.Nat{1, 1}, 64, 1 << 63, 1, true},
		{api.Nat{0, 1}, 1, 1, 64, false},
		{api.Nat{1, 0, 1}, 64, 1 << 63, 65, true},
		{nil, 1, 0, 0, false},
		{api.Nat{0, 0}, 64, 0, 0, false},
	} {
		if upper, below, left, err := nat.Top(c.a, c.k); upper != c.upper || below != c.below || left != c.left || err != nil {
			t.Errorf("P4.6: Top(%v, %d) = %d, %d, %v, %v; want %d, %d, %v", c.a, c.k, upper, below, left, err, c.upper, c.below, c.left)
		}
	}
}

// checkTop holds what Top answers against numbers without an end, and against P4.9.
func checkTop(t *testing.T, a api.Nat, k int) {
	t.Helper()
	x := great(a)
	want := max(x.BitLen()-k, 0)
	upper, below, left, err := nat.Top(a, k)
	head := new(big.Int).SetUint64(upper)
	if head.Cmp(new(big.Int).Rsh(x, uint(want))) != 0 || below != want || err != nil {
		t.Errorf("P4.6: Top(%v, %d) = %d, %d, %v; want %d below", a, k, upper, below, err, want)
	}
	unit, err := nat.Shl(nat.Of(1), below)
	back := nat.Mul(nat.Of(upper), unit)
	less, err2 := nat.Sub(a, back)
	if err != nil || err2 != nil || nat.Cmp(less, unit) >= 0 || left != (len(less) > 0) {
		t.Errorf("P4.9: Top(%v, %d) = %d, %d, %v: a is above it by %v", a, k, upper, below, left, less)
	}
}

// P4.6: no upper bits but 1 to 64 of them.
func TestTopRefuses(t *testing.T) {
	for _, a := range []api.Nat{nil, {0}, {3}, {1, 2, 3}} {
		for _, k := range []int{0, -1, 65, 128, 1 << 40, math.MinInt, math.MaxInt} {
			if upper, below, left, err := nat.Top(a, k); upper != 0 || below != 0 || left || err != api.ErrArg {
				t.Errorf("P4.6: Top(%v, %d) = %d, %d, %v, %v; want ErrArg and nothing else", a, k, upper, below, left, err)
			}
		}
	}
}

// P4.7: powers of ten, up to the bound.
func TestTen(t *testing.T) {
	places := []int{16383, 16384, 8192, 4863, 4864, 4865}
	for k := range 200 {
		places = append(places, k)
	}
	for _, k := range places {
		got, err := nat.Ten(k)
		check(t, got, new(big.Int).Exp(big.NewInt(10), big.NewInt(int64(k)), nil), "P4.7: Ten", k)
		if err != nil {
			t.Errorf("P4.7: Ten(%d): %v", k, err)
		}
	}
}

// P4.7: no power below nought, nor above the bound.
func TestTenRefuses(t *testing.T) {
	for k, want := range map[int]error{
		-1: api.ErrArg, -19: api.ErrArg, math.MinInt: api.ErrArg, 16385: api.ErrLong, 65536: api.ErrLong, math.MaxInt: api.ErrLong,
	} {
		if got, err := nat.Ten(k); got != nil || err != want {
			t.Errorf("P4.7: Ten(%d) = %v, %v; want %v and nothing else", k, got, err, want)
		}
	}
}

// P4.8: texts of digits, of each length about a limb's, with noughts ahead, and as long as may be.
func TestRead(t *testing.T) {
	texts := []string{"0", "00", "007", "7", "10", "18446744073709551615", "18446744073709551616", "100000000000000000000"}
	for n := range 100 {
		texts = append(texts, strings.Repeat("9", n+1), "1"+strings.Repeat("0", n), strings.Repeat("0", n)+"5", strings.Repeat("1234567890", n+1))
	}
	texts = append(texts, strings.Repeat("9", 4096), strings.Repeat("0", 4096), strings.Repeat("0", 4095)+"3", "3"+strings.Repeat("0", 4095))
	for _, s := range texts {
		got, err := nat.Read(s)
		want, _ := new(big.Int).SetString(s, 10)
		check(t, got, want, "P4.8: Read", s)
		if err != nil {
			t.Errorf("P4.8: Read(%q): %v", s, err)
		}
	}
}

// P4.8: the first byte that is no digit is told, whatever stands behind it; of an empty text the place 0.
func TestReadRefuses(t *testing.T) {
	for s, at := range map[string]int{
		"": 0, " ": 0, "1 ": 1, "-1": 0, "+1": 0, "x": 0, "12x4y": 2, "1_000": 1, "0x10": 1, "1e5": 1, "1.5": 1, " 1": 0, "1\n": 1, "12\x00": 2,
		"٣": 0, "1٣": 1, "12\xff": 2, "\x80": 0, "/": 0, ":": 0, "9/": 1, "9:": 1, "12345678901234567890a": 20,
		strings.Repeat("1", 4095) + "a": 4095, strings.Repeat(" ", 4096): 0,
	} {
		got, err := nat.Read(s)
		f, ok := err.(*api.Fault)
		if got != nil || !ok || f.Err != api.ErrDigits || f.At != at || f.Line != 0 {
			t.Errorf("P4.8: Read(%q) = %v, %v; want a fault of ErrDigits at %d, and nothing else", s, got, err, at)
		}
		if !errors.Is(err, api.ErrDigits) {
			t.Errorf("R2: Read(%q): ErrDigits is not found in %v", s, err)
		}
	}
	for b := range 256 {
		s := "42" + string([]byte{byte(b)})
		if _, err := nat.Read(s); (err == nil) != (b >= '0' && b <= '9') {
			t.Errorf("P4.8: Read(%q): %v", s, err)
		}
	}
}

// P4.8: a text above the bound is too long, ahead of all that stands in it.
func TestReadTooLong(t *testing.T) {
	for _, s := range []string{strings.Repeat("1", 4097), strings.Repeat("0", 4097), strings.Repeat("x", 4097), "-" + strings.Repeat("1", 4096), strings.Repeat("9", 100000)} {
		if got, err := nat.Read(s); got != nil || err != api.ErrTooLong {
			t.Errorf("P4.8: Read of %d bytes = %v, %v; want ErrTooLong itself, and nothing else", len(s), got, err)
		}
	}
}

// P4.8, P4.9: numbers as texts, without noughts ahead, and back.
func TestText(t *testing.T) {
	long := mixed(500, 4)
	for _, a := range append(numbers(), long, append(slices.Clone(long), 0, 0)) {
		s := nat.Text(a)
		if want := great(a).String(); s != want {
			t.Errorf("P4.8: Text(%v) = %s; want %s", a, s, want)
		}
		back, err := nat.Read(s)
		if len(s) <= api.MaxText && (nat.Cmp(back, a) != 0 || err != nil) {
			t.Errorf("P4.9: Read of Text(%v) = %v, %v", a, back, err)
		}
	}
	for n := range 100 {
		for _, s := range []string{"1" + strings.Repeat("0", n), strings.Repeat("9", n+1), "7" + strings.Repeat("0", n) + "1"} {
			a, err := nat.Read(strings.Repeat("0", n%23) + s)
			if got := nat.Text(a); got != s || err != nil {
				t.Errorf("P4.9: Text of Read(%s) = %s, %v", s, got, err)
			}
		}
	}
	if a, b := nat.Text(nil), nat.Text(api.Nat{0, 0}); a != "0" || b != "0" {
		t.Errorf("P4.8: Text of nought = %q, %q", a, b)
	}
}
