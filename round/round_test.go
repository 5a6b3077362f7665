package round_test

import (
	"cmp"
	"fmt"
	"math"
	"math/big"
	"slices"
	"strconv"
	"strings"
	"testing"

	"vernier/api"
	"vernier/codec"
	"vernier/round"
)

const (
	top      = math.MaxUint64
	one      = 1 << 63 // the highest word of a power of two
	farNum   = 1 << 30 // the greatest scale of a sound Num
	farExact = 1 << 40 // the greatest scale of a sound Exact
	most     = math.MaxInt
)

// widths are the four, told anew: the tests don't ask the program for them.
func widths() []int { return []int{8, 16, 32, 64} }

// refusedWidths are numbers that are no width: those beside the widths, their negatives, and those of which only the lowest bits are a width.
func refusedWidths() []int {
	l := []int{0, 1, 2, 3, 4, 5, 6, 10, 12, 20, 24, 40, 48, 56, 60, 96, 128, 256, 1024, math.MaxInt, math.MinInt}
	for _, n := range widths() {
		l = append(l, n-1, n+1, -n, -n-1, -n+1, n+1<<8, n+1<<16, n+1<<32, n+math.MinInt)
	}
	return l
}

// folded is what is left of p, divided by 2^n.
func folded(n int, p uint64) uint64 { return p << (64 - n) >> (64 - n) }

func nar(n int) uint64 { return 1 << (n - 1) }

// rank is a pattern as a signed integer.
func rank(n int, p uint64) int64 { return int64(p<<(64-n)) >> (64 - n) }

// mixed are words by a fixed rule, and the edges of a word.
func mixed() []uint64 {
	l := []uint64{0, 1, 2, 3, top, top - 1, one, one - 1, one + 1, 1 << 62, 3 << 62, 1 << 32, 1<<32 - 1, 0x5555555555555555, 0xaaaaaaaaaaaaaaaa}
	x := uint64(2)
	for range 9 {
		x = x*6364136223846793005 + 1442695040888963407
		l = append(l, x, x>>32)
	}
	return l
}

// positives are patterns of numbers above 0: all of the widths 8 and 16; of the wider ones every run with its neighbours, fractions that are wanting, empty, full and mixed.
func positives(n int) []uint64 {
	var l []uint64
	if n <= 16 {
		for p := range nar(n) {
			l = append(l, p)
		}
		return l[1:]
	}
	word := uint64(1)
	for run := 1; run < n; run++ {
		rest := uint64(1)<<(n-1-run) - 1
		for range 3 {
			word = word*6364136223846793005 + 1442695040888963407
			for _, tail := range []uint64{0, 1, 2, 3, 4, rest, rest - 1, rest - 2, rest / 2, rest/2 + 1, rest / 4, rest / 8, rest &^ (rest / 4), word, word >> 9} {
				// A field of other bits ahead of these is the run, of noughts or of ones.
				noughts := tail & rest
				if noughts > 0 {
					l = append(l, noughts)
				}
				l = append(l, (nar(n)-1)&^rest|noughts)
			}
		}
	}
	return l
}

// exact is an Exact that is a Real.
func exact(scale int, hi, lo uint64, rest bool) api.Exact {
	return api.Exact{Kind: api.Real, Scale: scale, Hi: hi, Lo: lo, Rest: rest}
}

// turned is the negative of a Real.
func turned(x api.Exact) api.Exact {
	x.Neg = !x.Neg
	return x
}

// withRest is a number just above x, so near that it isn't told.
func withRest(x api.Exact) api.Exact {
	x.Rest = true
	return x
}

// above is the next number above x that 128 bits tell.
func above(x api.Exact) api.Exact {
	x.Lo++
	if x.Lo == 0 {
		x.Hi++
	}
	if x.Hi == 0 {
		return exact(x.Scale+1, one, 0, false)
	}
	return x
}

// below is the next number below x that 128 bits tell.
func below(x api.Exact) api.Exact {
	if x.Hi == one && x.Lo == 0 {
		return exact(x.Scale-1, top, top, false)
	}
	if x.Lo == 0 {
		x.Hi--
	}
	x.Lo--
	return x
}

// stringOf is the string of a number above 0, word by word as the document tells it. What isn't told stands for a 1 somewhere behind.
func stringOf(x api.Exact) string {
	k := int(math.Floor(float64(x.Scale) / 4))
	run := strings.Repeat("0", max(-k, 0)) + "1"
	if k >= 0 {
		run = strings.Repeat("1", k+1) + "0"
	}
	s := run + fmt.Sprintf("%02b", x.Scale-4*k) + fmt.Sprintf("%064b%064b", x.Hi, x.Lo)[1:]
	if x.Rest {
		s += "0001"
	}
	return s
}

// readString is the number of a string in which the run has an end, with noughts behind it.
func readString(s string) api.Exact {
	rest := strings.TrimLeft(s, s[:1])
	k := len(s) - len(rest) - 1
	if s[0] == '0' {
		k = -k - 1
	}
	rest = rest[1:] + "00"
	e, _ := strconv.ParseUint(rest[:2], 2, 64)
	digits := ("1" + rest[2:] + strings.Repeat("0", 128))[:128]
	hi, _ := strconv.ParseUint(digits[:64], 2, 64)
	lo, _ := strconv.ParseUint(digits[64:], 2, 64)
	return exact(4*k+int(e), hi, lo, false)
}

// textOf is the string of a pattern whose highest bit is 0.
func textOf(n int, p uint64) string { return fmt.Sprintf("%0*b", n-1, p) }

// cutOf is what Cut must answer of a number above 0, by the document's words on a text.
func cutOf(n int, x api.Exact) (uint64, int) {
	end := 4*n - 8
	if x.Scale >= end {
		return nar(n) - 1, 0
	}
	if x.Scale < -end || x == exact(-end, one, 0, false) {
		return 1, 0
	}
	s := stringOf(x)
	p, _ := strconv.ParseUint(s[:n-1], 2, 64)
	switch left := strings.TrimRight(s[n-1:], "0"); {
	case left == "":
		return p, 0
	case left == "1":
		return p, 2
	case left[0] == '1':
		return p, 3
	}
	return p, 1
}

// wantCut wants an answer of Cut, and of Round what follows from it, of a number above 0 and of its negative.
func wantCut(t *testing.T, n int, x api.Exact, p uint64, left int) {
	t.Helper()
	for _, y := range []api.Exact{x, turned(x)} {
		if q, l, err := round.Cut(n, y); q != p || l != left || err != nil {
			t.Fatalf("P7.3: Cut(%d, %+v) = %#x, %d, %v; want %#x, %d", n, y, q, l, err, p, left)
		}
	}
	if left == 3 || left == 2 && p%2 == 1 {
		p++
	}
	wantRound(t, n, x, p)
	wantRound(t, n, turned(x), folded(n, -p))
}

// wantRound wants an answer of Round that is a real's pattern.
func wantRound(t *testing.T, n int, x api.Exact, p uint64) {
	t.Helper()
	q, err := round.Round(n, x)
	if q != p || err != nil {
		t.Fatalf("P7.4: Round(%d, %+v) = %#x, %v; want %#x", n, x, q, err, p)
	}
	if q == 0 || q == nar(n) {
		t.Fatalf("P7.5: Round(%d, %+v) = %#x, no real's", n, x, q)
	}
}

func wantMake(t *testing.T, neg bool, hi, lo uint64, exp int, rest bool, want api.Exact, refused error) {
	t.Helper()
	if x, err := round.Make(neg, hi, lo, exp, rest); x != want || err != refused {
		t.Fatalf("P7.1: Make(%v, %#x, %#x, %d, %v) = %+v, %v; want %+v, %v", neg, hi, lo, exp, rest, x, err, want, refused)
	}
}

// P7.1: ordinary numbers, in one word and in two, and noughts of either sign.
func TestMake(t *testing.T) {
	wantMake(t, false, 0, 3, 0, false, exact(1, 3<<62, 0, false), nil)
	wantMake(t, true, 0, 3, 0, false, turned(exact(1, 3<<62, 0, false)), nil)
	wantMake(t, false, 0, 1, -10, false, exact(-10, one, 0, false), nil)
	wantMake(t, false, 1, 1, 5, false, exact(69, one, one, false), nil)
	wantMake(t, false, one, 0, -127, false, exact(0, one, 0, false), nil)
	wantMake(t, true, one, 1, -127, true, turned(exact(0, one, 1, true)), nil)
	wantMake(t, false, top, top, 0, true, exact(127, top, top, true), nil)
	wantMake(t, false, one-1, top, 0, false, exact(126, top, top-1, false), nil)
	for _, exp := range []int{0, 5, -5, farExact, -farExact, most, math.MinInt} {
		wantMake(t, false, 0, 0, exp, false, api.Exact{Kind: api.Zero}, nil)
		wantMake(t, true, 0, 0, exp, false, api.Exact{Kind: api.Zero}, nil)
	}
}

// P7.1: a rest without the highest bit is refused, nought or not; with it, it isn't.
func TestMakeWithARest(t *testing.T) {
	for _, neg := range []bool{false, true} {
		for _, exp := range []int{0, 7, -127, most, math.MinInt} {
			for _, hi := range mixed() {
				for _, lo := range mixed() {
					if hi < one {
						wantMake(t, neg, hi, lo, exp, true, api.Exact{}, api.ErrArg)
					}
				}
			}
		}
		x := exact(0, one, 0, true)
		x.Neg = neg
		wantMake(t, neg, one, 0, -127, true, x, nil)
	}
}

// made is what Make must answer without a rest, reckoned without bounds.
func made(neg bool, hi, lo uint64, exp int) api.Exact {
	g := new(big.Int).SetUint64(hi)
	g.Lsh(g, 64).Or(g, new(big.Int).SetUint64(lo))
	if g.Sign() == 0 {
		return api.Exact{Kind: api.Zero}
	}
	scale := big.NewInt(int64(exp))
	scale.Add(scale, big.NewInt(int64(g.BitLen()-1)))
	if far := big.NewInt(farExact); scale.CmpAbs(far) > 0 {
		scale = far.Mul(far, big.NewInt(int64(scale.Sign())))
	}
	g.Lsh(g, uint(128-g.BitLen()))
	x := exact(int(scale.Int64()), new(big.Int).Rsh(g, 64).Uint64(), g.Uint64(), false)
	x.Neg = neg
	return x
}

// exponents are ordinary ones, those near the scales' bounds, and those near both ends of an int.
func exponents() []int {
	var l []int
	for i := -140; i <= 140; i++ {
		l = append(l, i, farExact+i, -farExact+i, farNum+i)
	}
	for i := range 140 {
		l = append(l, most-i, math.MinInt+i)
	}
	return l
}

// P7.1: all pairs of words, and every place of the highest bit, with every exponent near an edge.
func TestMakeAgainstNumbersWithoutAnEnd(t *testing.T) {
	words := mixed()
	for i := range 64 {
		words = append(words, 1<<i, top>>i)
	}
	for e, exp := range exponents() {
		neg := e%2 == 0
		for i, hi := range words {
			lo := words[(i*7+e)%len(words)]
			wantMake(t, neg, hi, lo, exp, false, made(neg, hi, lo, exp), nil)
			wantMake(t, neg, 0, lo, exp, false, made(neg, 0, lo, exp), nil)
			if hi >= one {
				wantMake(t, neg, hi, lo, exp, true, withRest(made(neg, hi, lo, exp)), nil)
			}
		}
	}
}

// P7.1, P7.3, P7.4: what Make answers at and beyond the bounds is sound.
func TestWhatMakeAnswersIsTaken(t *testing.T) {
	for _, exp := range exponents() {
		for _, n := range widths() {
			x, _ := round.Make(exp%2 == 0, 0, 5, exp, false)
			if _, err := round.Round(n, x); err != nil {
				t.Fatalf("P7.4: Round(%d, %+v), which Make made, answers %v", n, x, err)
			}
		}
	}
}

// P7.2: sound numbers, up to their bounds.
func TestOf(t *testing.T) {
	for _, kind := range []int{api.Zero, api.NaR} {
		if x, err := round.Of(api.Num{Kind: kind}); x != (api.Exact{Kind: kind}) || err != nil {
			t.Errorf("P7.2: Of of the kind %d = %+v, %v", kind, x, err)
		}
	}
	for _, neg := range []bool{false, true} {
		for _, scale := range []int{0, 1, -1, 24, -24, 248, -300, 1 << 20, farNum - 1, farNum, 1 - farNum, -farNum} {
			for _, frac := range []uint64{one, one + 1, 3 << 62, top, top - 1} {
				x, err := round.Of(api.Num{Kind: api.Real, Neg: neg, Scale: scale, Frac: frac})
				want := exact(scale, frac, 0, false)
				want.Neg = neg
				if x != want || err != nil {
					t.Errorf("P7.2: Of of the scale %d, frac %#x, %v = %+v, %v", scale, frac, neg, x, err)
				}
			}
		}
	}
}

// unsoundNums are Nums that aren't formed as they must be.
func unsoundNums() []api.Num {
	l := []api.Num{
		{Kind: -1}, {Kind: 3}, {Kind: 4}, {Kind: 257}, {Kind: most}, {Kind: math.MinInt},
		{Kind: 1<<32 + api.Real, Frac: one}, {Kind: 3, Frac: one}, {Kind: -1, Frac: one}, {Kind: api.Real}, {Kind: api.Real, Neg: true},
	}
	for _, kind := range []int{api.Zero, api.NaR} {
		l = append(l, api.Num{Kind: kind, Neg: true}, api.Num{Kind: kind, Scale: 3}, api.Num{Kind: kind, Scale: -1}, api.Num{Kind: kind, Frac: 1},
			api.Num{Kind: kind, Frac: one}, api.Num{Kind: kind, Neg: true, Scale: 1, Frac: one})
	}
	for _, frac := range []uint64{1, 2, 1 << 62, one - 1} {
		l = append(l, api.Num{Kind: api.Real, Frac: frac}, api.Num{Kind: api.Real, Neg: true, Scale: 5, Frac: frac})
	}
	for _, scale := range []int{farNum + 1, -farNum - 1, 1 << 31, -1 << 31, 1 << 32, -1 << 32, farExact, -farExact, most, math.MinInt} {
		l = append(l, api.Num{Kind: api.Real, Scale: scale, Frac: one}, api.Num{Kind: api.Real, Neg: true, Scale: scale, Frac: top})
	}
	return l
}

// P7.2, R6: numbers that aren't sound.
func TestOfRefusesWhatIsNotSound(t *testing.T) {
	for _, x := range unsoundNums() {
		if y, err := round.Of(x); y != (api.Exact{}) || err != api.ErrArg {
			t.Errorf("P7.2: Of(%+v) = %+v, %v; want ErrArg", x, y, err)
		}
	}
}

// unsoundExacts are Exacts that aren't formed as they must be.
func unsoundExacts() []api.Exact {
	l := []api.Exact{
		{Kind: -1}, {Kind: 3}, {Kind: 4}, {Kind: 257}, {Kind: most}, {Kind: math.MinInt},
		{Kind: 1<<32 + api.Real, Hi: one}, {Kind: 3, Hi: one}, {Kind: -1, Hi: one}, {Kind: api.Real}, {Kind: api.Real, Neg: true}, {Kind: api.Real, Rest: true},
	}
	for _, kind := range []int{api.Zero, api.NaR} {
		l = append(l, api.Exact{Kind: kind, Neg: true}, api.Exact{Kind: kind, Scale: 3}, api.Exact{Kind: kind, Scale: -1}, api.Exact{Kind: kind, Hi: 1},
			api.Exact{Kind: kind, Hi: one}, api.Exact{Kind: kind, Lo: 1}, api.Exact{Kind: kind, Lo: one}, api.Exact{Kind: kind, Rest: true},
			api.Exact{Kind: kind, Neg: true, Scale: 1, Hi: one, Lo: 1, Rest: true})
	}
	for _, hi := range []uint64{0, 1, 2, 1 << 62, one - 1} {
		l = append(l, exact(0, hi, 0, false), exact(0, hi, one, false), turned(exact(3, hi, top, true)))
	}
	for _, scale := range []int{farExact + 1, -farExact - 1, 1 << 41, -1 << 41, 1 << 48, -1 << 48, most, math.MinInt, math.MinInt + 1} {
		l = append(l, exact(scale, one, 0, false), turned(exact(scale, top, top, true)))
	}
	return l
}

// P7.3, P7.4, R6: Exacts that aren't sound; R3: a width that is none, ahead of that.
func TestCutAndRoundRefuse(t *testing.T) {
	for _, x := range unsoundExacts() {
		for _, n := range widths() {
			wantRefused(t, n, x, api.ErrArg)
		}
	}
	all := append(unsoundExacts(), api.Exact{}, api.Exact{Kind: api.NaR}, exact(0, one, 0, false), turned(exact(3, top, 1, true)),
		exact(farExact, one, 0, false), exact(-farExact, one, 0, false))
	for _, n := range refusedWidths() {
		for _, x := range all {
			wantRefused(t, n, x, api.ErrWidth)
		}
	}
}

func wantRefused(t *testing.T, n int, x api.Exact, refused error) {
	t.Helper()
	if p, left, err := round.Cut(n, x); p != 0 || left != 0 || err != refused {
		t.Fatalf("P7.3: Cut(%d, %+v) = %#x, %d, %v; want %v", n, x, p, left, err, refused)
	}
	if p, err := round.Round(n, x); p != 0 || err != refused {
		t.Fatalf("P7.4: Round(%d, %+v) = %#x, %v; want %v", n, x, p, err, refused)
	}
}

// P7.3, P7.4: those that stand apart.
func TestZeroAndNaR(t *testing.T) {
	for _, n := range widths() {
		for kind, want := range map[int]uint64{api.Zero: 0, api.NaR: nar(n)} {
			x := api.Exact{Kind: kind}
			if p, left, err := round.Cut(n, x); p != want || left != 0 || err != nil {
				t.Errorf("P7.3: Cut(%d, %+v) = %#x, %d, %v", n, x, p, left, err)
			}
			if p, err := round.Round(n, x); p != want || err != nil {
				t.Errorf("P7.4: Round(%d, %+v) = %#x, %v", n, x, p, err)
			}
		}
	}
}

// P7.3, P7.4: the examples, and more by hand, of numbers above 0 and their negatives.
func TestExamples(t *testing.T) {
	for _, c := range []struct {
		n    int
		x    api.Exact
		p    uint64
		left int
	}{
		{8, exact(0, one, 0, false), 0x40, 0},
		{8, exact(0, one, 0, true), 0x40, 1},
		{8, exact(0, one, 1, false), 0x40, 1},
		{8, exact(20, one, 0, false), 0x7e, 0},
		{8, exact(21, one, 0, false), 0x7e, 1},
		{8, exact(21, 3<<62, 0, false), 0x7e, 1},
		{8, exact(21, top, top, true), 0x7e, 1},
		{8, exact(22, one, 0, false), 0x7e, 2},
		{8, exact(22, one, 1, false), 0x7e, 3},
		{8, exact(22, one, 0, true), 0x7e, 3},
		{8, exact(22, 3<<62, 0, false), 0x7e, 3},
		{8, exact(23, one, 0, false), 0x7e, 3},
		{8, exact(23, top, top, true), 0x7e, 3},
		{8, exact(24, one, 0, false), 0x7f, 0},
		{8, exact(24, one, 0, true), 0x7f, 0},
		{8, exact(24, 3<<62, 0, false), 0x7f, 0},
		{8, exact(30, one, 0, false), 0x7f, 0},
		{8, exact(-40, one, 0, false), 0x01, 0},
		{8, exact(-25, top, top, true), 0x01, 0},
		{8, exact(-24, one, 0, false), 0x01, 0},
		{8, exact(-24, one, 0, true), 0x01, 1},
		{8, exact(-24, one, 1, false), 0x01, 1},
		{8, exact(-24, 3<<62, 0, false), 0x01, 1},
		{8, exact(-22, one, 0, false), 0x01, 2},
		{8, exact(-22, one, 0, true), 0x01, 3},
		{8, exact(-21, one, 0, false), 0x01, 3},
		{8, exact(0, 0x88<<56, 0, false), 0x40, 2},
		{8, exact(0, 0x98<<56, 0, false), 0x41, 2},
		{8, exact(16, one, 0, false), 0x7c, 0},
		{8, exact(17, one, 0, false), 0x7c, 2},
		{8, exact(19, one, 0, false), 0x7d, 2},
		{8, exact(3, 0xf8<<56, 0, false), 0x5f, 2},
		{16, exact(52, one, 0, false), 0x7ffe, 0},
		{16, exact(54, one, 0, false), 0x7ffe, 2},
		{32, exact(0, one+1<<35, 0, false), 0x40000000, 2},
		{32, exact(0, one+3<<35, 0, false), 0x40000001, 2},
		{64, exact(0, one+1<<3, 0, false), 1 << 62, 2},
		{64, exact(0, one+1<<3, 1, false), 1 << 62, 3},
		{64, exact(0, one+1<<3, 0, true), 1 << 62, 3},
		{64, exact(0, one, one, false), 1 << 62, 1},
		{64, exact(246, one, 0, false), nar(64) - 2, 2},
		{64, exact(248, one, 0, false), nar(64) - 1, 0},
		{64, exact(-246, one, 0, false), 1, 2},
	} {
		wantCut(t, c.n, c.x, c.p, c.left)
	}
	wantRound(t, 8, exact(22, one, 0, false), 0x7e)
	wantRound(t, 8, exact(23, one, 0, false), 0x7f)
	wantRound(t, 8, turned(exact(30, one, 0, false)), 0x81)
	wantRound(t, 8, turned(exact(-40, one, 0, false)), 0xff)
	wantRound(t, 8, exact(0, 0x88<<56, 0, false), 0x40)
	wantRound(t, 8, exact(0, 0x98<<56, 0, false), 0x42)
	wantRound(t, 8, turned(exact(0, 0x98<<56, 0, false)), 0xbe)
}

// fractions are numbers from 1 to 2, of the scale 0: each bit of 127 alone, each with all below it, and each with all above it.
func fractions() []api.Exact {
	l := []api.Exact{exact(0, one, 0, false)}
	for i := range 64 {
		bit := uint64(1) << i
		if bit != one {
			l = append(l, exact(0, one|bit, 0, false), exact(0, one|bit|bit-1, top, false), exact(0, -bit, 0, false))
		}
		l = append(l, exact(0, one, bit, false), exact(0, one, bit|bit-1, false), exact(0, top, -bit, false))
	}
	return l
}

// P7.3, P7.4: every scale up to beyond both ends, with every bit and every row of bits, against a text of the string.
func TestCutAgainstATextOfTheString(t *testing.T) {
	for _, n := range widths() {
		for scale := -4*n - 4; scale <= 4*n+4; scale++ {
			for _, x := range fractions() {
				x.Scale = scale
				p, left := cutOf(n, x)
				wantCut(t, n, x, p, left)
				p, left = cutOf(n, withRest(x))
				wantCut(t, n, withRest(x), p, left)
			}
		}
	}
}

// P7.3, P7.4: mixed words at every scale, against a text of the string.
func TestCutOfMixedWords(t *testing.T) {
	words := mixed()
	for _, n := range widths() {
		for scale := -4*n - 4; scale <= 4*n+4; scale++ {
			for i, hi := range words {
				x := exact(scale, hi|one, words[(i+7)%len(words)], i%3 == 0)
				p, left := cutOf(n, x)
				wantCut(t, n, x, p, left)
				x.Lo = 0
				p, left = cutOf(n, x)
				wantCut(t, n, x, p, left)
			}
		}
	}
}

// P7.3, P7.4: the greatest value and above it, the least and below it, up to the bounds of what is sound.
func TestBeyondBothEnds(t *testing.T) {
	for _, n := range widths() {
		end := 4*n - 8
		for _, far := range []int{0, 1, 2, 3, 4, 5, 8, 64, 256, 1 << 20, farNum, farNum + 1, 1 << 31, 1 << 32, 1<<32 + 8, farExact - end - 1, farExact - end} {
			for _, hi := range []uint64{one, one + 1, 3 << 62, top} {
				for _, lo := range []uint64{0, 1, one, top} {
					for _, rest := range []bool{false, true} {
						wantCut(t, n, exact(end+far, hi, lo, rest), nar(n)-1, 0)
						if far > 0 {
							wantCut(t, n, exact(-end-far, hi, lo, rest), 1, 0)
						}
					}
				}
			}
		}
		wantCut(t, n, exact(-end, one, 0, false), 1, 0)
		wantCut(t, n, exact(-end, one, 0, true), 1, 1)
		wantCut(t, n, below(exact(end, one, 0, false)), nar(n)-2, 3)
	}
}

// P7.3, P7.4, P7.5: each value comes back; just above it something is left, just below it almost the whole of the last bit.
func TestAtEachValue(t *testing.T) {
	for _, n := range widths() {
		for _, p := range positives(n) {
			v := value(n, p)
			wantCut(t, n, v, p, 0)
			if p != nar(n)-1 {
				wantCut(t, n, withRest(v), p, 1)
				wantCut(t, n, above(v), p, 1)
			}
			if p != 1 {
				wantCut(t, n, below(v), p-1, 3)
				wantCut(t, n, withRest(below(v)), p-1, 3)
			}
		}
	}
}

// value is what a pattern means, read off a text of its string; the greatest one's is told by itself, because its run has no end.
func value(n int, p uint64) api.Exact {
	if p == nar(n)-1 {
		return exact(4*n-8, one, 0, false)
	}
	return readString(textOf(n, p))
}

// P7.3, P7.4, P7.5: each tie between two patterns, just below it, just above it, and with a rest.
func TestAtEachTie(t *testing.T) {
	for _, n := range widths() {
		for _, p := range positives(n) {
			if p == nar(n)-1 {
				continue
			}
			x := readString(textOf(n, p) + "1")
			wantCut(t, n, x, p, 2)
			wantCut(t, n, below(x), p, 1)
			wantCut(t, n, withRest(below(x)), p, 1)
			wantCut(t, n, above(x), p, 3)
			wantCut(t, n, withRest(x), p, 3)
			even := p + p%2
			wantRound(t, n, x, even)
			wantRound(t, n, turned(x), folded(n, -even))
			wantRound(t, n, below(x), p)
			wantRound(t, n, above(x), p+1)
			wantRound(t, n, withRest(x), p+1)
		}
	}
}

// P7.5: below the width 64 a tie is the value of a pattern of the width 64.
func TestTiesAreValuesOfTheWidth64(t *testing.T) {
	for _, n := range []int{8, 16, 32} {
		for _, p := range positives(n) {
			if p == nar(n)-1 {
				continue
			}
			v, _ := codec.Decode(64, p<<(64-n)|1<<(63-n))
			x, err := round.Of(v)
			if err != nil {
				t.Fatalf("P7.2: Of(%+v): %v", v, err)
			}
			wantRound(t, n, x, p+p%2)
			wantRound(t, n, below(x), p)
			wantRound(t, n, above(x), p+1)
			wantRound(t, n, turned(x), folded(n, -p-p%2))
			wantRound(t, n, turned(below(x)), folded(n, -p))
			wantRound(t, n, turned(above(x)), folded(n, -p-1))
		}
	}
}

// P7.5: each pattern comes back by what it means, and those of a lesser width by a greater one.
func TestThereAndBack(t *testing.T) {
	for _, n := range widths() {
		l := append(positives(n), 0, nar(n))
		for _, p := range l {
			for _, q := range []uint64{p, folded(n, -p)} {
				wantBack(t, n, n, q, q)
				for _, m := range widths() {
					if m > n {
						wantBack(t, n, m, q, q<<(m-n))
					}
				}
			}
		}
	}
}

// wantBack wants the pattern q of the width m to go to p of the width n.
func wantBack(t *testing.T, n, m int, p, q uint64) {
	t.Helper()
	v, _ := codec.Decode(m, q)
	x, err := round.Of(v)
	back, again := round.Round(n, x)
	if back != p || err != nil || again != nil {
		t.Fatalf("P7.5: %#x of the width %d goes to %#x, %v, %v of the width %d; want %#x", q, m, back, err, again, n, p)
	}
}

// ascending are numbers above 0, each greater than the one ahead of it.
func ascending(n int) []api.Exact {
	var scales []int
	for scale := -4*n - 4; scale <= 4*n+4; scale++ {
		scales = append(scales, scale)
	}
	var l []api.Exact
	for _, scale := range append(scales, -farExact, -farNum, farNum, farExact) {
		for _, x := range fractions() {
			x.Scale = scale
			l = append(l, x, withRest(x))
		}
	}
	slices.SortFunc(l, func(a, b api.Exact) int {
		return cmp.Or(cmp.Compare(a.Scale, b.Scale), cmp.Compare(a.Hi, b.Hi), cmp.Compare(a.Lo, b.Lo), told(a)-told(b))
	})
	return l
}

// told is 1, if there is a rest, else 0.
func told(x api.Exact) int {
	if x.Rest {
		return 1
	}
	return 0
}

// P7.5: of two numbers the lesser has no greater rank; all of those above 0 stand above Zero, their negatives below it, as far.
func TestOrder(t *testing.T) {
	for _, n := range widths() {
		last := int64(0)
		for _, x := range ascending(n) {
			p, err := round.Round(n, x)
			r := rank(n, p)
			if err != nil || r < last || r <= 0 {
				t.Fatalf("P7.5: %+v has the rank %d, %v, behind the rank %d (width %d)", x, r, err, last, n)
			}
			last = r
			p, _ = round.Round(n, turned(x))
			if rank(n, p) != -r {
				t.Fatalf("P7.5: %+v has the rank %d, its negative %d (width %d)", x, r, rank(n, p), n)
			}
		}
		if last != int64(nar(n)-1) {
			t.Fatalf("P7.5: the greatest number of all has the rank %d (width %d)", last, n)
		}
	}
}
