package codec_test

import (
	"fmt"
	"math"
	"math/big"
	"strconv"
	"strings"
	"testing"

	"vernier/api"
	"vernier/codec"
)

const (
	top  = math.MaxUint64
	one  = 1 << 63 // Frac of a power of two
	far  = 1 << 30 // the greatest scale of a sound number
	most = math.MaxInt
)

// widths are the four, told anew: the tests don't ask the program for them.
func widths() []int { return []int{8, 16, 32, 64} }

// refusedWidths are numbers that are no width: those beside the widths, their negatives, and those of which only the lowest bits are a width.
func refusedWidths() []int {
	l := []int{0, 1, 2, 3, 4, 5, 6, 10, 12, 20, 24, 40, 48, 56, 60, 96, 128, 256, 1024, math.MaxInt, math.MinInt}
	for _, n := range widths() {
		l = append(l, n-1, n+1, -n, -n-1, -n+1, n+1<<8, n+1<<16, n+1<<32, n+math.MinInt)
	}
	return l
}

// folded is what is left of p, divided by 2^n.
func folded(n int, p uint64) uint64 { return p << (64 - n) >> (64 - n) }

func nar(n int) uint64 { return 1 << (n - 1) }

func isReal(n int, p uint64) bool { return folded(n, p) != 0 && folded(n, p) != nar(n) }

// patterns are all of the widths 8 and 16; of the wider ones every run with its neighbours, fractions that are wanting, empty, full and mixed, and all their negatives.
func patterns(n int) []uint64 {
	var l []uint64
	if n <= 16 {
		for p := range uint64(1) << n {
			l = append(l, p)
		}
		return l
	}
	mixed := uint64(1)
	for run := 1; run < n; run++ {
		below := n - 1 - run
		rest := uint64(1)<<below - 1
		for range 6 {
			mixed = mixed*6364136223846793005 + 1442695040888963407
			for _, tail := range []uint64{0, 1, 2, 3, rest, rest - 1, rest / 2, rest / 4, rest / 8, rest &^ (rest / 4), mixed, mixed >> 9} {
				// A field of other bits ahead of these is the run, of noughts or of ones.
				noughts := tail & rest
				ones := (nar(n)-1)&^rest | noughts
				l = append(l, noughts, ones, folded(n, -noughts), folded(n, -ones))
			}
		}
	}
	return append(l, 0, nar(n))
}

// bitsOf are a pattern's bits as a text, the highest first; of a negative one those of its two's complement.
func bitsOf(n int, p uint64) (bool, string) {
	b := fmt.Sprintf("%0*b", n, folded(n, p))
	if b[0] == '0' {
		return false, b
	}
	v, _ := new(big.Int).SetString(b, 2)
	v.Sub(new(big.Int).Lsh(big.NewInt(1), uint(n)), v)
	return true, fmt.Sprintf("%0*b", n, v)
}

// number reads bits, none of them as 0.
func number(b string) uint64 {
	v, _ := strconv.ParseUint("0"+b, 2, 64)
	return v
}

// partsOf reads a real's parts off its text, word by word as the document tells them.
func partsOf(n int, p uint64) api.Fields {
	neg, b := bitsOf(n, p)
	s := b[1:]
	f := api.Fields{Neg: neg, Ones: s[0] == '1'}
	rest := strings.TrimLeft(s, s[:1])
	f.Run = len(s) - len(rest)
	f.Regime = f.Run - 1
	if !f.Ones {
		f.Regime = -f.Run
	}
	if rest != "" {
		rest = rest[1:]
	}
	f.ExpBits = min(2, len(rest))
	f.Exp = int(number((rest + "00")[:2]))
	f.FracBits = len(rest) - f.ExpBits
	f.Frac = number(rest[f.ExpBits:])
	return f
}

// scaled is v times 2^k.
func scaled(v *big.Rat, k int) *big.Rat {
	two := new(big.Rat).SetInt(new(big.Int).Lsh(big.NewInt(1), uint(max(k, -k))))
	if k < 0 {
		return v.Quo(v, two)
	}
	return v.Mul(v, two)
}

// valueOf is a real's value, by the document's words: 2^(4 k + e) times 1 and the fraction.
func valueOf(n int, p uint64) *big.Rat {
	f := partsOf(n, p)
	v := scaled(new(big.Rat).SetInt(new(big.Int).SetUint64(f.Frac)), -f.FracBits)
	v.Add(v, big.NewRat(1, 1))
	v = scaled(v, 4*f.Regime+f.Exp)
	if f.Neg {
		v.Neg(v)
	}
	return v
}

// numberOf is the number of a sound Num that is a Real.
func numberOf(x api.Num) *big.Rat {
	v := scaled(new(big.Rat).SetInt(new(big.Int).SetUint64(x.Frac)), x.Scale-63)
	if x.Neg {
		v.Neg(v)
	}
	return v
}

// meant is the Num of a pattern, built from the parts that the text tells.
func meant(n int, p uint64) api.Num {
	switch folded(n, p) {
	case 0:
		return api.Num{Kind: api.Zero}
	case nar(n):
		return api.Num{Kind: api.NaR}
	}
	f := partsOf(n, p)
	return num(f.Neg, 4*f.Regime+f.Exp, one+f.Frac<<(63-f.FracBits))
}

// num is a Num that is a Real.
func num(neg bool, scale int, frac uint64) api.Num {
	return api.Num{Kind: api.Real, Neg: neg, Scale: scale, Frac: frac}
}

// answers wants a call's answer, and its error, to be just these.
func answers[T comparable](t *testing.T, call string, n int, given any, got T, err error, want T, refused error) {
	t.Helper()
	if got != want || err != refused {
		t.Fatalf("%s(%d, %+v) = %+v, %v; want %+v, %v", call, n, given, got, err, want, refused)
	}
}

func wantSplit(t *testing.T, n int, p uint64, want api.Fields) {
	t.Helper()
	f, err := codec.Split(n, p)
	answers(t, "P6.1: Split", n, p, f, err, want, nil)
}

func wantJoin(t *testing.T, n int, f api.Fields, want uint64, refused error) {
	t.Helper()
	p, err := codec.Join(n, f)
	answers(t, "P6.2: Join", n, f, p, err, want, refused)
}

func wantDecode(t *testing.T, n int, p uint64, want api.Num) {
	t.Helper()
	x, err := codec.Decode(n, p)
	answers(t, "P6.3: Decode", n, p, x, err, want, nil)
}

func wantEncode(t *testing.T, n int, x api.Num, want uint64, refused error) {
	t.Helper()
	p, err := codec.Encode(n, x)
	answers(t, "P6.4: Encode", n, x, p, err, want, refused)
}

// edge is a pattern with its parts and the number it means.
type edge struct {
	n    int
	p    uint64
	f    api.Fields
	sc   int
	frac uint64
}

// edges are ordinary patterns, and of each width the least, the greatest, and those beside them, whose exponent is wanting in part or in whole.
func edges() []edge {
	return []edge{
		{8, 0x40, api.Fields{Ones: true, Run: 1, ExpBits: 2, FracBits: 3}, 0, one},
		{8, 0x44, api.Fields{Ones: true, Run: 1, ExpBits: 2, FracBits: 3, Frac: 4}, 0, 3 << 62},
		{8, 0x48, api.Fields{Ones: true, Run: 1, ExpBits: 2, Exp: 1, FracBits: 3}, 1, one},
		{8, 0x5f, api.Fields{Ones: true, Run: 1, ExpBits: 2, Exp: 3, FracBits: 3, Frac: 7}, 3, 15 << 60},
		{8, 0x60, api.Fields{Ones: true, Run: 2, Regime: 1, ExpBits: 2, FracBits: 2}, 4, one},
		{8, 0x3f, api.Fields{Run: 1, Regime: -1, ExpBits: 2, Exp: 3, FracBits: 3, Frac: 7}, -1, 15 << 60},
		{8, 0x20, api.Fields{Run: 1, Regime: -1, ExpBits: 2, FracBits: 3}, -4, one},
		{8, 0x1d, api.Fields{Run: 2, Regime: -2, ExpBits: 2, Exp: 3, FracBits: 2, Frac: 1}, -5, 5 << 61},
		{8, 0x79, api.Fields{Ones: true, Run: 4, Regime: 3, ExpBits: 2, Exp: 1}, 13, one},
		{8, 0x75, api.Fields{Ones: true, Run: 3, Regime: 2, ExpBits: 2, Exp: 2, FracBits: 1, Frac: 1}, 10, 3 << 62},
		{8, 0x7c, api.Fields{Ones: true, Run: 5, Regime: 4, ExpBits: 1}, 16, one},
		{8, 0x7d, api.Fields{Ones: true, Run: 5, Regime: 4, ExpBits: 1, Exp: 2}, 18, one},
		{8, 0x7e, api.Fields{Ones: true, Run: 6, Regime: 5}, 20, one},
		{8, 0x7f, api.Fields{Ones: true, Run: 7, Regime: 6}, 24, one},
		{8, 0x01, api.Fields{Run: 6, Regime: -6}, -24, one},
		{8, 0x02, api.Fields{Run: 5, Regime: -5, ExpBits: 1}, -20, one},
		{8, 0x03, api.Fields{Run: 5, Regime: -5, ExpBits: 1, Exp: 2}, -18, one},
		{8, 0x05, api.Fields{Run: 4, Regime: -4, ExpBits: 2, Exp: 1}, -15, one},
		{8, 0xc0, api.Fields{Neg: true, Ones: true, Run: 1, ExpBits: 2, FracBits: 3}, 0, one},
		{8, 0x81, api.Fields{Neg: true, Ones: true, Run: 7, Regime: 6}, 24, one},
		{8, 0x83, api.Fields{Neg: true, Ones: true, Run: 5, Regime: 4, ExpBits: 1, Exp: 2}, 18, one},
		{8, 0xff, api.Fields{Neg: true, Run: 6, Regime: -6}, -24, one},
		{8, 0xbc, api.Fields{Neg: true, Ones: true, Run: 1, ExpBits: 2, FracBits: 3, Frac: 4}, 0, 3 << 62},
		{16, 0x4400, api.Fields{Ones: true, Run: 1, ExpBits: 2, FracBits: 11, Frac: 1 << 10}, 0, 3 << 62},
		{16, 0x7fff, api.Fields{Ones: true, Run: 15, Regime: 14}, 56, one},
		{16, 0x7ffe, api.Fields{Ones: true, Run: 14, Regime: 13}, 52, one},
		{16, 0x7ffd, api.Fields{Ones: true, Run: 13, Regime: 12, ExpBits: 1, Exp: 2}, 50, one},
		{16, 0x0001, api.Fields{Run: 14, Regime: -14}, -56, one},
		{16, 0x0003, api.Fields{Run: 13, Regime: -13, ExpBits: 1, Exp: 2}, -50, one},
		{16, 0xffff, api.Fields{Neg: true, Run: 14, Regime: -14}, -56, one},
		{32, 0x40000001, api.Fields{Ones: true, Run: 1, ExpBits: 2, FracBits: 27, Frac: 1}, 0, one + 1<<36},
		{32, 0x7fffffff, api.Fields{Ones: true, Run: 31, Regime: 30}, 120, one},
		{32, 0x00000001, api.Fields{Run: 30, Regime: -30}, -120, one},
		{32, 0x80000001, api.Fields{Neg: true, Ones: true, Run: 31, Regime: 30}, 120, one},
		{64, 1 << 62, api.Fields{Ones: true, Run: 1, ExpBits: 2, FracBits: 59}, 0, one},
		{64, 1<<62 + 1, api.Fields{Ones: true, Run: 1, ExpBits: 2, FracBits: 59, Frac: 1}, 0, one + 1<<4},
		{64, 1<<61 - 1, api.Fields{Run: 2, Regime: -2, ExpBits: 2, Exp: 3, FracBits: 58, Frac: 1<<58 - 1}, -5, top - 31},
		{64, math.MaxInt64, api.Fields{Ones: true, Run: 63, Regime: 62}, 248, one},
		{64, 1, api.Fields{Run: 62, Regime: -62}, -248, one},
		{64, 2, api.Fields{Run: 61, Regime: -61, ExpBits: 1}, -244, one},
		{64, top, api.Fields{Neg: true, Run: 62, Regime: -62}, -248, one},
		{64, 1<<63 + 1, api.Fields{Neg: true, Ones: true, Run: 63, Regime: 62}, 248, one},
	}
}

// P6.1, P6.2, P6.3, P6.4: what is told of each edge, there and back.
func TestEdges(t *testing.T) {
	for _, e := range edges() {
		x := num(e.f.Neg, e.sc, e.frac)
		wantSplit(t, e.n, e.p, e.f)
		wantJoin(t, e.n, e.f, e.p, nil)
		wantDecode(t, e.n, e.p, x)
		wantEncode(t, e.n, x, e.p, nil)
	}
}

// P6.1 to P6.4: those that stand apart have no parts, and nothing but a kind.
func TestThoseThatStandApart(t *testing.T) {
	for _, n := range widths() {
		wantSplit(t, n, 0, api.Fields{})
		wantSplit(t, n, nar(n), api.Fields{})
		wantJoin(t, n, api.Fields{}, 0, api.ErrForm)
		wantDecode(t, n, 0, api.Num{Kind: api.Zero})
		wantDecode(t, n, nar(n), api.Num{Kind: api.NaR})
		wantEncode(t, n, api.Num{Kind: api.Zero}, 0, nil)
		wantEncode(t, n, api.Num{Kind: api.NaR}, nar(n), nil)
	}
}

// P6.1, P6.3: against a text of the bits; what stands above a pattern is passed over.
func TestSplitAndDecodeAgainstATextOfTheBits(t *testing.T) {
	for _, n := range widths() {
		for i, p := range patterns(n) {
			var want api.Fields
			if isReal(n, p) {
				want = partsOf(n, p)
			}
			above := []uint64{0, 1, top, uint64(i)}[i%4] << n
			wantSplit(t, n, p|above, want)
			wantDecode(t, n, p|above, meant(n, p))
		}
	}
}

// P6.3: the number of what Decode answers is the value, and it is sound.
func TestDecodeTellsTheValue(t *testing.T) {
	for _, n := range widths() {
		for _, p := range patterns(n) {
			if !isReal(n, p) {
				continue
			}
			x, err := codec.Decode(n, p)
			if err != nil || x.Kind != api.Real || x.Frac < one || numberOf(x).Cmp(valueOf(n, p)) != 0 {
				t.Fatalf("P6.3: Decode(%d, %#x) = %+v, %v; its value is %v", n, p, x, err, valueOf(n, p))
			}
		}
	}
}

// R3: no width, ahead of parts that are none and of numbers that aren't sound.
func TestRefusedWidths(t *testing.T) {
	for _, n := range refusedWidths() {
		for _, p := range []uint64{0, 1, 0x44, 0x80, 1 << 63, top} {
			f, err := codec.Split(n, p)
			answers(t, "P6.1: Split", n, p, f, err, api.Fields{}, api.ErrWidth)
			x, err := codec.Decode(n, p)
			answers(t, "P6.3: Decode", n, p, x, err, api.Num{}, api.ErrWidth)
		}
		for _, f := range []api.Fields{{}, {Run: -1}, {Run: 99}, {Ones: true, Run: 1, ExpBits: 2, FracBits: 3}} {
			wantJoin(t, n, f, 0, api.ErrWidth)
		}
		for _, x := range []api.Num{{}, {Kind: api.NaR}, {Kind: 9}, num(false, 0, one), num(false, 0, 1), num(true, far, one), num(true, far+1, one)} {
			wantEncode(t, n, x, 0, api.ErrWidth)
		}
	}
}

// P6.2: of all parts that come near those of the width 8 just a real's are taken.
func TestJoinOfAllPartsNearAWidth(t *testing.T) {
	known := map[api.Fields]uint64{}
	for _, p := range patterns(8) {
		if isReal(8, p) {
			known[partsOf(8, p)] = p
		}
	}
	if len(known) != 254 {
		t.Fatalf("P6.2: the 254 reals of the width 8 have %d parts", len(known))
	}
	taken := 0
	for run := -1; run <= 9; run++ {
		for regime := -8; regime <= 8; regime++ {
			for sign := range 4 {
				f := api.Fields{Neg: sign%2 == 1, Ones: sign/2 == 1, Run: run, Regime: regime}
				taken += joinTails(t, f, known)
			}
		}
	}
	if taken != len(known) {
		t.Errorf("P6.2: Join took %d parts of the width 8; want %d", taken, len(known))
	}
}

// joinTails joins parts of a given head with every exponent and fraction near those of the width 8, and counts those taken.
func joinTails(t *testing.T, f api.Fields, known map[api.Fields]uint64) int {
	t.Helper()
	taken := 0
	for f.ExpBits = -1; f.ExpBits <= 3; f.ExpBits++ {
		for f.Exp = -1; f.Exp <= 4; f.Exp++ {
			for f.FracBits = -1; f.FracBits <= 4; f.FracBits++ {
				for f.Frac = 0; f.Frac <= 8; f.Frac++ {
					p, ok := known[f]
					if ok {
						taken++
						wantJoin(t, 8, f, p, nil)
					} else {
						wantJoin(t, 8, f, 0, api.ErrForm)
					}
				}
			}
		}
	}
	return taken
}

// wrongCounts are other numbers than v, near it and far from it, and those that are v in their lowest bits.
func wrongCounts(v int) []int {
	return []int{v - 1, v + 1, v - 4, v + 4, -v - 1, v + 8, v + 16, v + 32, v + 64, v + 1<<8, v + 1<<32, v + math.MinInt,
		most - v, math.MinInt + v}
}

// P6.2: parts that differ from a pattern's in one field that doesn't stand for itself are no pattern's.
func TestJoinRefusesPartsWithOneFieldWrong(t *testing.T) {
	for _, n := range widths() {
		for i, p := range patterns(n) {
			if !isReal(n, p) || n == 16 && i%7 != 0 {
				continue
			}
			f := partsOf(n, p)
			turned := f
			turned.Ones = !f.Ones
			wantJoin(t, n, turned, 0, api.ErrForm)
			for _, field := range []func(*api.Fields) *int{
				func(g *api.Fields) *int { return &g.Run },
				func(g *api.Fields) *int { return &g.Regime },
				func(g *api.Fields) *int { return &g.ExpBits },
				func(g *api.Fields) *int { return &g.FracBits },
			} {
				for _, v := range wrongCounts(*field(&f)) {
					g := f
					*field(&g) = v
					if g != f {
						wantJoin(t, n, g, 0, api.ErrForm)
					}
				}
			}
		}
	}
}

// P6.2: a sign, an exponent or a fraction alone may be another's, where there are bits for it.
func TestJoinTakesWhatHasRoom(t *testing.T) {
	for _, n := range widths() {
		for i, p := range patterns(n) {
			if !isReal(n, p) || n == 16 && i%7 != 0 {
				continue
			}
			f := partsOf(n, p)
			turned := f
			turned.Neg = !f.Neg
			wantJoin(t, n, turned, folded(n, -p), nil)
			for _, e := range append(wrongCounts(f.Exp), 0, 1, 2, 3, 5) {
				g := f
				g.Exp = e
				wantRoom(t, n, g, e >= 0 && e < 4 && e%(4>>f.ExpBits) == 0)
			}
			for _, v := range []uint64{0, 1, f.Frac + 1, f.Frac - 1, 1<<f.FracBits - 1, 1 << f.FracBits, f.Frac | 1<<f.FracBits, f.Frac | 1<<n, f.Frac | 1<<63, top} {
				g := f
				g.Frac = v
				wantRoom(t, n, g, v < 1<<f.FracBits)
			}
		}
	}
}

// wantRoom wants the pattern whose text tells just these parts, or ErrForm.
func wantRoom(t *testing.T, n int, f api.Fields, room bool) {
	t.Helper()
	p, err := codec.Join(n, f)
	if !room && (p != 0 || err != api.ErrForm) {
		t.Fatalf("P6.2: Join(%d, %+v) = %#x, %v; want ErrForm and 0", n, f, p, err)
	}
	if room && (err != nil || !isReal(n, p) || p != folded(n, p) || partsOf(n, p) != f) {
		t.Fatalf("P6.2: Join(%d, %+v) = %#x, %v; want the pattern of these parts", n, f, p, err)
	}
}

// P6.2: counts that no width has, alone and together, and the parts of another width.
func TestJoinRefusesWhatNoPatternHas(t *testing.T) {
	wild := []int{math.MinInt, math.MinInt + 1, -1 << 32, -65, -64, -1, 64, 65, 1 << 32, most - 1, most}
	for _, n := range widths() {
		for _, v := range wild {
			for _, f := range []api.Fields{
				{Run: v},
				{Ones: true, Run: v, Regime: v - 1},
				{Run: v, Regime: -v},
				{Run: v, Regime: v, ExpBits: v, Exp: v, FracBits: v, Frac: uint64(v)},
				{Neg: true, Ones: true, Run: 1, ExpBits: 2, Exp: v, FracBits: n - 5},
				{Neg: true, Ones: true, Run: 1, ExpBits: v, FracBits: n - 3 - v},
				{Ones: true, Run: 1, ExpBits: 2, FracBits: v},
			} {
				wantJoin(t, n, f, 0, api.ErrForm)
			}
		}
		for _, neg := range []bool{false, true} {
			// A run of noughts to the end would be Zero.
			wantJoin(t, n, api.Fields{Neg: neg, Run: n - 1, Regime: 1 - n}, 0, api.ErrForm)
			wantJoin(t, n, api.Fields{Neg: neg, Ones: true, Run: n, Regime: n - 1}, 0, api.ErrForm)
			wantJoin(t, n, api.Fields{Neg: neg, Ones: true}, 0, api.ErrForm)
			wantJoin(t, n, api.Fields{Neg: neg, Regime: -1}, 0, api.ErrForm)
		}
		wantJoin(t, n, api.Fields{Neg: true}, 0, api.ErrForm)
		for _, e := range edges() {
			if e.n != n {
				wantJoin(t, n, e.f, 0, api.ErrForm)
			}
		}
	}
}

// P6.4, R6: numbers that aren't sound.
func TestEncodeRefusesWhatIsNotSound(t *testing.T) {
	for _, n := range widths() {
		for _, x := range []api.Num{
			num(false, 0, 0), num(false, 0, 1), num(true, 0, 1<<62), num(false, 3, one-1), {Kind: api.Real}, {Kind: api.Real, Neg: true},
			num(false, far+1, one), num(false, -far-1, one), num(true, far+1, top), num(true, most, one), num(false, math.MinInt, one),
			num(false, 1<<32, one), num(false, -1<<32, one), num(false, 1<<40, one),
			{Kind: -1}, {Kind: 3}, {Kind: 4}, {Kind: 257}, {Kind: most}, {Kind: math.MinInt}, {Kind: 1<<32 + api.Real, Frac: one}, {Kind: 3, Frac: one}, {Kind: -1, Frac: one},
		} {
			wantEncode(t, n, x, 0, api.ErrArg)
		}
		for _, kind := range []int{api.Zero, api.NaR} {
			for _, x := range []api.Num{
				{Neg: true}, {Scale: 3}, {Scale: -1}, {Scale: most}, {Frac: 1}, {Frac: one}, {Neg: true, Scale: 1, Frac: one},
			} {
				x.Kind = kind
				wantEncode(t, n, x, 0, api.ErrArg)
			}
		}
	}
}

// P6.4: sound numbers beyond both ends, up to the bounds of what is sound.
func TestEncodeBeyondBothEnds(t *testing.T) {
	for _, n := range widths() {
		end := 4*n - 8
		for _, neg := range []bool{false, true} {
			for _, frac := range []uint64{one, one + 1, 3 << 62, top} {
				for _, scale := range []int{end + 1, end + 2, end + 3, end + 4, end + 256, 4 * end, 1 << 20, far - 1, far} {
					wantEncode(t, n, num(neg, scale, frac), 0, api.ErrExact)
					wantEncode(t, n, num(neg, -scale, frac), 0, api.ErrExact)
				}
				if frac != one {
					wantEncode(t, n, num(neg, end, frac), 0, api.ErrExact)
					wantEncode(t, n, num(neg, -end, frac), 0, api.ErrExact)
				}
			}
		}
	}
}

// values are the patterns of a width by the numbers that they mean.
func values(n int) map[api.Num]uint64 {
	all := map[api.Num]uint64{}
	for _, p := range patterns(n) {
		all[meant(n, p)] = p
	}
	return all
}

// wantKnown wants the pattern of a number that a width has, ErrExact of any other.
func wantKnown(t *testing.T, n int, x api.Num, all map[api.Num]uint64) {
	t.Helper()
	if p, ok := all[x]; ok {
		wantEncode(t, n, x, p, nil)
	} else {
		wantEncode(t, n, x, 0, api.ErrExact)
	}
}

// P6.4: of the widths 8 and 16, whose values are all known, every scale with every single bit, every row of bits, and the numbers of the next width.
func TestEncodeAgainstAllValues(t *testing.T) {
	for _, n := range []int{8, 16} {
		all := values(n)
		for scale := -4 * n; scale <= 4*n; scale++ {
			for i := range 64 {
				for _, frac := range []uint64{one | 1<<i, top << i, one | 5<<i, one | 1<<60 | 1<<i} {
					wantKnown(t, n, num(i%2 == 0, scale, frac|one), all)
				}
			}
		}
		for _, p := range patterns(2 * n) {
			wantKnown(t, n, meant(2*n, p), all)
		}
	}
}

// P6.4: a bit below the last one of the fraction, and bits of the exponent for which there is no room.
func TestEncodeBetweenTwoPatterns(t *testing.T) {
	for _, n := range widths() {
		for _, p := range patterns(n) {
			if !isReal(n, p) {
				continue
			}
			f, x := partsOf(n, p), meant(n, p)
			for i := range 63 - f.FracBits {
				wantEncode(t, n, num(x.Neg, x.Scale, x.Frac|1<<i), 0, api.ErrExact)
			}
			for more := 1; more < 4>>f.ExpBits; more++ {
				wantEncode(t, n, num(x.Neg, x.Scale+more, x.Frac), 0, api.ErrExact)
			}
		}
	}
}

// P6.5: a pattern comes back by what it means, and a real's by its parts; these agree with one another.
func TestThereAndBack(t *testing.T) {
	for _, n := range widths() {
		for _, p := range patterns(n) {
			x, err := codec.Decode(n, p)
			if err != nil {
				t.Fatalf("P6.5: Decode(%d, %#x): %v", n, p, err)
			}
			wantEncode(t, n, x, p, nil)
			f, err := codec.Split(n, p)
			if err != nil || x.Scale != 4*f.Regime+f.Exp || x.Neg != f.Neg {
				t.Fatalf("P6.5: Split(%d, %#x) = %+v, %v, but Decode is %+v", n, p, f, err, x)
			}
			if x.Kind == api.Real {
				wantJoin(t, n, f, p, nil)
			} else {
				wantJoin(t, n, f, 0, api.ErrForm)
			}
		}
	}
}

// P6.5: where Encode answers a pattern, that pattern means just the number; a refusal answers no pattern.
func TestDecodeOfWhatEncodeAnswers(t *testing.T) {
	for _, n := range widths() {
		for _, m := range widths() {
			for i, p := range patterns(m) {
				if m == 16 && i%5 != 0 {
					continue
				}
				x := meant(m, p)
				q, err := codec.Encode(n, x)
				if err == nil {
					wantDecode(t, n, q, x)
				} else if q != 0 || err != api.ErrExact || m <= n {
					t.Fatalf("P6.5: Encode(%d, %+v) = %#x, %v", n, x, q, err)
				}
			}
		}
	}
}

// P6.5: noughts behind a string change nothing.
func TestNoughtsBehindAString(t *testing.T) {
	for _, n := range widths() {
		for _, m := range widths() {
			if m < n {
				continue
			}
			for _, p := range patterns(n) {
				x, err := codec.Decode(n, p)
				y, again := codec.Decode(m, p<<(m-n))
				if x != y || err != nil || again != nil {
					t.Fatalf("P6.5: Decode(%d, %#x) = %+v, %v, but with noughts, %d in all, it is %+v, %v", n, p, x, err, m, y, again)
				}
				wantEncode(t, m, x, p<<(m-n), nil)
			}
		}
	}
}
