package shape_test

import (
	"math"
	"math/big"
	"slices"
	"testing"

	"vernier/api"
	"vernier/shape"
)

const top = math.MaxUint64

// refusedWidths are numbers that are no width: those beside the widths, their negatives, powers of two, and those of which only the lowest bits are a width.
func refusedWidths() []int {
	l := []int{0, 1, 2, 3, 4, 5, 6, 10, 12, 20, 24, 40, 48, 56, 60, 96, 128, 256, 512, 1024,
		math.MaxInt, math.MinInt, math.MaxInt32, math.MinInt32, math.MaxInt - 63}
	for _, n := range shape.Widths() {
		l = append(l, n-1, n+1, -n, -n-1, -n+1, n+1<<8, n+1<<16, n+1<<32, n+math.MinInt)
	}
	return l
}

// words are the edges of every width, all powers of two with their neighbours, and a row of mixed ones by a fixed rule.
func words() []uint64 {
	l := []uint64{0, top, 0x5555555555555555, 0xaaaaaaaaaaaaaaaa}
	for i := range 64 {
		one := uint64(1) << i
		l = append(l, one, one-1, one+1, ^one, -one)
	}
	x := uint64(1)
	for range 300 {
		x = x*6364136223846793005 + 1442695040888963407
		l = append(l, x, x>>17, x>>32, x>>48, x>>56)
	}
	return l
}

// short are all patterns of the width 16, and so all of the width 8 with all that may stand right above them.
func short() []uint64 {
	l := make([]uint64, 1<<16)
	for i := range l {
		l[i] = uint64(i)
	}
	return l
}

func power(k int) *big.Int { return new(big.Int).Lsh(big.NewInt(1), uint(k)) }

// folded is what is left of p, divided by 2^n.
func folded(n int, p uint64) uint64 {
	v := new(big.Int).SetUint64(p)
	return v.Mod(v, power(n)).Uint64()
}

// ranked is the lowest n bits in two's complement.
func ranked(n int, p uint64) int64 {
	v := new(big.Int).SetUint64(folded(n, p))
	if v.Cmp(power(n-1)) >= 0 {
		v.Sub(v, power(n))
	}
	return v.Int64()
}

// kindOf asks a pattern's bits one by one.
func kindOf(n int, p uint64) int {
	ones, head := 0, false
	for i := range n {
		if p>>i%2 == 1 {
			ones, head = ones+1, i == n-1
		}
	}
	switch {
	case ones == 0:
		return api.Zero
	case ones == 1 && head:
		return api.NaR
	}
	return api.Real
}

// P5.1: the four, in their order.
func TestWidthsAreTheFour(t *testing.T) {
	if l := shape.Widths(); !slices.Equal(l, []int{8, 16, 32, 64}) {
		t.Errorf("P5.1: Widths() = %v; want 8, 16, 32, 64", l)
	}
}

// R4, R5: who writes into an answer, or into room behind it, changes neither the next answer nor what is a width.
func TestWidthsAreNewMemoryEachTime(t *testing.T) {
	first, second := shape.Widths(), shape.Widths()
	whole := first[:cap(first)]
	for i := range whole {
		whole[i] = 7
	}
	_ = append(first, 9)
	for _, l := range [][]int{second, shape.Widths()} {
		if !slices.Equal(l, []int{8, 16, 32, 64}) {
			t.Errorf("R4: Widths() = %v after a write into another answer", l)
		}
	}
	if s, err := shape.Of(7); s != (api.Shape{}) || err != api.ErrWidth {
		t.Errorf("R4: Of(7) = %v, %v after a write into an answer of Widths; want ErrWidth", s, err)
	}
	if s, err := shape.Of(8); s.Width != 8 || err != nil {
		t.Errorf("R4: Of(8) = %v, %v after a write into an answer of Widths", s, err)
	}
}

// P5.2: of each width all that is told of it.
func TestOfTellsOfEachWidth(t *testing.T) {
	for _, want := range []api.Shape{
		{Width: 8, Most: 0x7f, Least: 1, NaR: 0x80, Top: 24},
		{Width: 16, Most: 0x7fff, Least: 1, NaR: 0x8000, Top: 56},
		{Width: 32, Most: 0x7fffffff, Least: 1, NaR: 0x80000000, Top: 120},
		{Width: 64, Most: 0x7fffffffffffffff, Least: 1, NaR: 0x8000000000000000, Top: 248},
	} {
		if s, err := shape.Of(want.Width); s != want || err != nil {
			t.Errorf("P5.2: Of(%d) = %+v, %v; want %+v", want.Width, s, err, want)
		}
	}
}

// P5.2 to P5.6, R3: what is no width is refused by each call, ahead of all else.
func TestRefusedWidths(t *testing.T) {
	for _, n := range refusedWidths() {
		if s, err := shape.Of(n); s != (api.Shape{}) || err != api.ErrWidth {
			t.Errorf("P5.2: Of(%d) = %+v, %v; want ErrWidth and nothing else", n, s, err)
		}
		for _, p := range []uint64{0, 1, 0x7f, 0x80, 0x8000, 1 << 63, top} {
			if f, err := shape.Fold(n, p); f != 0 || err != api.ErrWidth {
				t.Errorf("P5.3: Fold(%d, %#x) = %#x, %v; want ErrWidth and 0", n, p, f, err)
			}
			if k, err := shape.Kind(n, p); k != 0 || err != api.ErrWidth {
				t.Errorf("P5.4: Kind(%d, %#x) = %d, %v; want ErrWidth and 0", n, p, k, err)
			}
			if r, err := shape.Rank(n, p); r != 0 || err != api.ErrWidth {
				t.Errorf("P5.5: Rank(%d, %#x) = %d, %v; want ErrWidth and 0", n, p, r, err)
			}
			// Among these are ranks of no width, which a width would answer by ErrArg.
			if q, err := shape.Pattern(n, int64(p)); q != 0 || err != api.ErrWidth {
				t.Errorf("P5.6: Pattern(%d, %d) = %#x, %v; want ErrWidth and 0", n, int64(p), q, err)
			}
		}
	}
}

// P5.3: ordinary patterns, the edges, and bits above them.
func TestFoldTakesTheLowestBits(t *testing.T) {
	for _, c := range []struct {
		n       int
		p, want uint64
	}{
		{8, 0, 0},
		{8, 0x44, 0x44},
		{8, 0xff, 0xff},
		{8, 0x100, 0},
		{8, 0x1ff, 0xff},
		{8, 0xabcd, 0xcd},
		{8, top, 0xff},
		{16, 0xffff, 0xffff},
		{16, 0x10000, 0},
		{16, 0x12345, 0x2345},
		{16, top, 0xffff},
		{32, 0xffffffff, 0xffffffff},
		{32, 1 << 32, 0},
		{32, 0x123456789, 0x23456789},
		{32, top, 0xffffffff},
		{64, 0, 0},
		{64, 1 << 63, 1 << 63},
		{64, top, top},
	} {
		if f, err := shape.Fold(c.n, c.p); f != c.want || err != nil {
			t.Errorf("P5.3: Fold(%d, %#x) = %#x, %v; want %#x", c.n, c.p, f, err, c.want)
		}
	}
}

// P5.3: against what is left of a division by 2^n.
func TestFoldAgainstADivision(t *testing.T) {
	for _, n := range shape.Widths() {
		for _, p := range append(words(), short()...) {
			if f, err := shape.Fold(n, p); f != folded(n, p) || err != nil {
				t.Fatalf("P5.3: Fold(%d, %#x) = %#x, %v; want %#x", n, p, f, err, folded(n, p))
			}
		}
	}
}

// P5.4: the two that stand apart and their neighbours, with bits above them too.
func TestKindOfEdges(t *testing.T) {
	for _, n := range shape.Widths() {
		head := uint64(1) << (n - 1)
		for _, c := range []struct {
			p    uint64
			want int
		}{
			{0, api.Zero},
			{1, api.Real},
			{head - 1, api.Real},
			{head, api.NaR},
			{head + 1, api.Real},
			{head >> 1, api.Real},
			{head | head>>1, api.Real},
			{2*head - 1, api.Real},
		} {
			for _, above := range []uint64{0, 1, 2, 0x80, top} {
				// Of the width 64 there is nothing above.
				p := c.p | above<<n
				if k, err := shape.Kind(n, p); k != c.want || err != nil {
					t.Errorf("P5.4: Kind(%d, %#x) = %d, %v; want %d", n, p, k, err, c.want)
				}
			}
		}
	}
}

// P5.4: against the bits one by one; NaR of one width is none of another.
func TestKindAgainstTheBits(t *testing.T) {
	for _, n := range shape.Widths() {
		for _, p := range append(words(), short()...) {
			if k, err := shape.Kind(n, p); k != kindOf(n, p) || err != nil {
				t.Fatalf("P5.4: Kind(%d, %#x) = %d, %v; want %d", n, p, k, err, kindOf(n, p))
			}
		}
	}
}

// P5.5: ordinary patterns, the edges of each width, and bits above them.
func TestRankOfEdges(t *testing.T) {
	for _, c := range []struct {
		n    int
		p    uint64
		want int64
	}{
		{8, 0, 0},
		{8, 1, 1},
		{8, 0x44, 68},
		{8, 0x7f, 127},
		{8, 0x80, -128},
		{8, 0x81, -127},
		{8, 0xc0, -64},
		{8, 0xff, -1},
		{8, 0x100, 0},
		{8, 0x17f, 127},
		{8, top - 0x80, 127},
		{8, 0x180, -128},
		{16, 0xff, 255},
		{16, 0x7fff, math.MaxInt16},
		{16, 0x8000, math.MinInt16},
		{16, 0xffff, -1},
		{16, 0x18000, math.MinInt16},
		{32, 0xffff, 65535},
		{32, 0x7fffffff, math.MaxInt32},
		{32, 0x80000000, math.MinInt32},
		{32, 0xffffffff, -1},
		{32, 0x1ffffffff, -1},
		{64, 0xffffffff, 1<<32 - 1},
		{64, math.MaxInt64, math.MaxInt64},
		{64, 1 << 63, math.MinInt64},
		{64, top, -1},
	} {
		if r, err := shape.Rank(c.n, c.p); r != c.want || err != nil {
			t.Errorf("P5.5: Rank(%d, %#x) = %d, %v; want %d", c.n, c.p, r, err, c.want)
		}
	}
}

// P5.5: against a number without an end, 2^n less where the highest bit is 1.
func TestRankAgainstTwosComplement(t *testing.T) {
	for _, n := range shape.Widths() {
		for _, p := range append(words(), short()...) {
			if r, err := shape.Rank(n, p); r != ranked(n, p) || err != nil {
				t.Fatalf("P5.5: Rank(%d, %#x) = %d, %v; want %d", n, p, r, err, ranked(n, p))
			}
		}
	}
}

// P5.6: ranks at each bound, ordinary ones, and those beyond.
func TestPatternAtAndBeyondTheBounds(t *testing.T) {
	for _, c := range []struct {
		n    int
		r    int64
		want uint64
		err  error
	}{
		{8, 0, 0, nil},
		{8, 68, 0x44, nil},
		{8, 127, 0x7f, nil},
		{8, 128, 0, api.ErrArg},
		{8, 255, 0, api.ErrArg},
		{8, 256, 0, api.ErrArg},
		{8, -1, 0xff, nil},
		{8, -127, 0x81, nil},
		{8, -128, 0x80, nil},
		{8, -129, 0, api.ErrArg},
		{8, -256, 0, api.ErrArg},
		{8, 1 << 8, 0, api.ErrArg},
		{8, 1<<32 + 5, 0, api.ErrArg},
		{8, math.MaxInt64, 0, api.ErrArg},
		{8, math.MinInt64, 0, api.ErrArg},
		{16, math.MaxInt16, 0x7fff, nil},
		{16, math.MaxInt16 + 1, 0, api.ErrArg},
		{16, math.MinInt16, 0x8000, nil},
		{16, math.MinInt16 - 1, 0, api.ErrArg},
		{16, -128, 0xff80, nil},
		{16, math.MinInt64, 0, api.ErrArg},
		{32, math.MaxInt32, 0x7fffffff, nil},
		{32, math.MaxInt32 + 1, 0, api.ErrArg},
		{32, math.MinInt32, 0x80000000, nil},
		{32, math.MinInt32 - 1, 0, api.ErrArg},
		{32, math.MaxInt64, 0, api.ErrArg},
		{32, -1, 0xffffffff, nil},
		{64, math.MaxInt64, math.MaxInt64, nil},
		{64, math.MinInt64, 1 << 63, nil},
		{64, -1, top, nil},
		{64, 0, 0, nil},
	} {
		if p, err := shape.Pattern(c.n, c.r); p != c.want || err != c.err {
			t.Errorf("P5.6: Pattern(%d, %d) = %#x, %v; want %#x, %v", c.n, c.r, p, err, c.want, c.err)
		}
	}
}

// P5.6: against the bounds of numbers without an end, for ranks and for what is none.
func TestPatternAgainstTwosComplement(t *testing.T) {
	for _, n := range shape.Widths() {
		half := power(n - 1)
		for _, w := range append(words(), short()...) {
			r := int64(w)
			v := big.NewInt(r)
			var want uint64
			var refused error
			if v.Cmp(half) >= 0 || v.Cmp(new(big.Int).Neg(half)) < 0 {
				refused = api.ErrArg
			} else {
				want = v.Mod(v, power(n)).Uint64()
			}
			if p, err := shape.Pattern(n, r); p != want || err != refused {
				t.Fatalf("P5.6: Pattern(%d, %d) = %#x, %v; want %#x, %v", n, r, p, err, want, refused)
			}
		}
	}
}

// P5.7: a pattern comes back by its rank, a rank by its pattern; what was folded stays.
func TestThereAndBack(t *testing.T) {
	for _, n := range shape.Widths() {
		for _, p := range append(words(), short()...) {
			folded, _ := shape.Fold(n, p)
			if again, err := shape.Fold(n, folded); again != folded || err != nil {
				t.Fatalf("P5.7: Fold(%d, %#x) = %#x, %v, but it was folded", n, folded, again, err)
			}
			r, _ := shape.Rank(n, p)
			back, err := shape.Pattern(n, r)
			if back != folded || err != nil {
				t.Fatalf("P5.7: Pattern(%d, Rank of %#x) = %#x, %v; want %#x", n, p, back, err, folded)
			}
			if again, err := shape.Rank(n, back); again != r || err != nil {
				t.Fatalf("P5.7: Rank(%d, Pattern of %d) = %d, %v", n, r, again, err)
			}
		}
	}
}

// P5.7: where those that stand apart are in the order of ranks.
func TestRanksOfThoseThatStandApart(t *testing.T) {
	for _, n := range shape.Widths() {
		s, _ := shape.Of(n)
		least, _ := shape.Rank(n, s.NaR)
		most, _ := shape.Rank(n, s.Most)
		if least != math.MinInt64>>(64-n) || most != math.MaxInt64>>(64-n) {
			t.Errorf("P5.7: the width %d has the ranks %d of NaR and %d of the greatest value", n, least, most)
		}
		if r, err := shape.Rank(n, 0); r != 0 || err != nil {
			t.Errorf("P5.7: Rank(%d, 0) = %d, %v; want 0", n, r, err)
		}
		if r, err := shape.Rank(n, s.Least); r != 1 || err != nil {
			t.Errorf("P5.7: Rank(%d, Least) = %d, %v; want 1", n, r, err)
		}
		for _, p := range append(words(), short()...) {
			f, _ := shape.Fold(n, p)
			r, err := shape.Rank(n, p)
			if err != nil || r < least || r > most || (r == least) != (f == s.NaR) || (r == most) != (f == s.Most) {
				t.Fatalf("P5.7: Rank(%d, %#x) = %d, %v; NaR alone has %d, the greatest value alone %d", n, p, r, err, least, most)
			}
		}
	}
}

// P5.2, P5.4: what Of tells are the patterns that Kind knows.
func TestOfAndKindAgree(t *testing.T) {
	for _, n := range shape.Widths() {
		s, _ := shape.Of(n)
		for _, c := range []struct {
			p    uint64
			want int
		}{{s.Most, api.Real}, {s.Least, api.Real}, {s.NaR, api.NaR}, {s.Least - 1, api.Zero}} {
			if k, err := shape.Kind(n, c.p); k != c.want || err != nil {
				t.Errorf("P5.4: Kind(%d, %#x) = %d, %v; want %d", n, c.p, k, err, c.want)
			}
		}
	}
}
