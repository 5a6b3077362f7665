package order_test

import (
	"math"
	"math/big"
	"testing"

	"vernier/api"
	"vernier/codec"
	"vernier/order"
)

const top = math.MaxUint64

// widths are the four, told anew: the tests don't ask the program for them.
func widths() []int { return []int{8, 16, 32, 64} }

// refusedWidths are numbers that are no width: those beside the widths, their negatives, and those of which only the lowest bits are a width.
func refusedWidths() []int {
	l := []int{0, 1, 2, 3, 4, 5, 6, 10, 12, 20, 24, 40, 48, 56, 60, 96, 128, 256, 1024,
		math.MaxInt, math.MinInt, math.MaxInt32, math.MinInt32}
	for _, n := range widths() {
		l = append(l, n-1, n+1, -n, -n-1, -n+1, n+1<<8, n+1<<16, n+1<<32, n+math.MinInt)
	}
	return l
}

func nar(n int) uint64 { return 1 << (n - 1) }

// folded is what is left of p, divided by 2^n.
func folded(n int, p uint64) uint64 { return p << (64 - n) >> (64 - n) }

// edges are the patterns of a width round which something changes: Zero, NaR, both ends, 1 and its negative, the quarters of the row, each with its neighbours; and single bits with what is below them.
func edges(n int) []uint64 {
	var l []uint64
	for _, p := range []uint64{0, nar(n), nar(n) / 2, nar(n) + nar(n)/2, nar(n) / 4, 0x5555555555555555, 0xaaaaaaaaaaaaaaaa} {
		l = append(l, folded(n, p-2), folded(n, p-1), folded(n, p), folded(n, p+1), folded(n, p+2))
	}
	for i := 2; i < n-3; i += max(3, n/10) {
		l = append(l, 1<<i, 1<<i-1, folded(n, -(1<<i)))
	}
	return l
}

// dirty is a pattern with bits above its width (of 64 there are none), by a fixed rule.
func dirty(n int, p uint64) uint64 {
	above := (p+0x9e3779b97f4a7c15)*6364136223846793005 | 1<<32 | 1<<16 | 1<<8
	return folded(n, p) | above>>n<<n
}

// patterns are all of the widths 8 and 16; of the wider ones the edges and a row of mixed ones by a fixed rule, long runs among them.
func patterns(n int) []uint64 {
	if n > 16 {
		l := edges(n)
		x := uint64(1)
		for i := range 4000 {
			x = x*6364136223846793005 + 1442695040888963407
			p := folded(n, x>>(64-n))
			l = append(l, p, p>>(i%(n-2)), folded(n, -(p>>(i%(n-2)))))
		}
		return l
	}
	l := make([]uint64, 1<<n)
	for i := range l {
		l[i] = uint64(i)
	}
	return l
}

func power(k int) *big.Int { return new(big.Int).Lsh(big.NewInt(1), uint(k)) }

// rank is the pattern in two's complement, without bounds.
func rank(n int, p uint64) *big.Int {
	v := new(big.Int).SetUint64(p)
	v.Mod(v, power(n))
	if v.Cmp(power(n-1)) >= 0 {
		v.Sub(v, power(n))
	}
	return v
}

// pattern is that of a rank.
func pattern(n int, r *big.Int) uint64 { return new(big.Int).Mod(r, power(n)).Uint64() }

// value is a pattern's value; of NaR nil.
func value(t *testing.T, n int, p uint64) *big.Rat {
	x, err := codec.Decode(n, p)
	if err != nil {
		t.Fatalf("Decode(%d, %#x): %v", n, p, err)
	}
	switch x.Kind {
	case api.NaR:
		return nil
	case api.Zero:
		return new(big.Rat)
	}
	v := new(big.Rat).SetInt(new(big.Int).SetUint64(x.Frac))
	two := new(big.Rat).SetInt(power(max(x.Scale-63, 63-x.Scale)))
	if x.Scale < 63 {
		two.Inv(two)
	}
	v.Mul(v, two)
	if x.Neg {
		v.Neg(v)
	}
	return v
}

// compareValues holds two values against each other, NaR below all.
func compareValues(a, b *big.Rat) int {
	switch {
	case a == nil && b == nil:
		return 0
	case a == nil:
		return -1
	case b == nil:
		return 1
	}
	return a.Cmp(b)
}

// pair is two patterns, as they are handed in.
type pair struct{ a, b uint64 }

// pairs are all of the width 8; of the others the edges with one another, mixed ones with the edges, neighbours, and equal ones; some with bits above them.
func pairs(n int) []pair {
	var l []pair
	if n == 8 {
		for a := range uint64(256) {
			for b := range uint64(256) {
				l = append(l, pair{a, b})
			}
		}
	}
	e := edges(n)
	for _, a := range e {
		for _, b := range e {
			l = append(l, pair{a, b}, pair{dirty(n, a), b}, pair{a, dirty(n, b)}, pair{dirty(n, a), dirty(n, b)})
		}
	}
	for i, p := range patterns(n) {
		q := folded(n, p*0x9e3779b97f4a7c15+uint64(i))
		l = append(l, pair{p, e[i%len(e)]}, pair{e[i%len(e)], dirty(n, p)}, pair{p, q}, pair{p, folded(n, p+1)}, pair{p, dirty(n, p)})
	}
	return l
}

// triple is a pattern and its limits.
type triple struct{ p, lo, hi uint64 }

// triples are the edges with one another, with bits above them in turn; and mixed ones.
func triples(n int) []triple {
	var l []triple
	e := edges(n)
	for i, p := range e {
		for j, lo := range e {
			for k, hi := range e {
				switch (i + j + k) % 5 {
				case 0:
					l = append(l, triple{dirty(n, p), lo, hi})
				case 1:
					l = append(l, triple{p, dirty(n, lo), hi})
				case 2:
					l = append(l, triple{p, lo, dirty(n, hi)})
				default:
					l = append(l, triple{p, lo, hi})
				}
			}
		}
	}
	for i, p := range patterns(n) {
		q := folded(n, p*0x9e3779b97f4a7c15+uint64(i))
		l = append(l, triple{p, q, e[i%len(e)]}, triple{q, p, folded(n, p+3)}, triple{e[i%len(e)], q, p})
	}
	return l
}

// P8.1: ordinary patterns, the ends of the row, equal ones, bits above the width.
func TestCmpOfEdges(t *testing.T) {
	for _, c := range []struct {
		n    int
		a, b uint64
		want int
	}{
		{8, 0x80, 0x81, -1},
		{8, 0xff, 0, -1},
		{8, 0x7f, 0x01, 1},
		{8, 0x40, 0x44, -1},
		{8, 0x44, 0x40, 1},
		{8, 0xc0, 0x40, -1},
		{8, 0x40, 0xc0, 1},
		{8, 0xc0, 0xbf, 1},
		{8, 0x80, 0x7f, -1},
		{8, 0x7f, 0x80, 1},
		{8, 0, 0, 0},
		{8, 0x80, 0x80, 0},
		{8, 0x180, 0x80, 0},
		{8, 0x100, 0, 0},
		{8, 0x1ff, 0, -1},
		{8, 0x101, 0xff, 1},
		{8, 0x100, 1, -1},
		{8, top, 0xff, 0},
		{16, 0xff, 0x7f, 1},
		{16, 0x80, 0, 1},
		{16, 0x8000, 0x8001, -1},
		{16, 0x18000, 0x7fff, -1},
		{16, 0xffff, 0, -1},
		{16, 0x4000, 0x4000, 0},
		{32, 0xffff, 0x7fff, 1},
		{32, 0x80000000, 0x7fffffff, -1},
		{32, 0xffffffff, 0, -1},
		{32, 0x100000001, 1, 0},
		{64, 1 << 63, 1<<63 - 1, -1},
		{64, 1<<63 - 1, 1 << 63, 1},
		{64, top, 0, -1},
		{64, 0, top, 1},
		{64, 1 << 63, 1<<63 + 1, -1},
		{64, 1 << 63, 1 << 63, 0},
		{64, 0xffffffff, 0x7fffffff, 1},
	} {
		if k, err := order.Cmp(c.n, c.a, c.b); k != c.want || err != nil {
			t.Errorf("P8.1: Cmp(%d, %#x, %#x) = %d, %v; want %d", c.n, c.a, c.b, k, err, c.want)
		}
	}
}

// P8.1, P8.2: against ranks without bounds.
func TestCmpMinMaxAgainstTheRanks(t *testing.T) {
	for _, n := range widths() {
		for _, c := range pairs(n) {
			want := rank(n, c.a).Cmp(rank(n, c.b))
			if k, err := order.Cmp(n, c.a, c.b); k != want || err != nil {
				t.Fatalf("P8.1: Cmp(%d, %#x, %#x) = %d, %v; want %d", n, c.a, c.b, k, err, want)
			}
			lesser, greater := folded(n, c.a), folded(n, c.b)
			if want > 0 {
				lesser, greater = greater, lesser
			}
			if p, err := order.Min(n, c.a, c.b); p != lesser || err != nil {
				t.Fatalf("P8.2: Min(%d, %#x, %#x) = %#x, %v; want %#x", n, c.a, c.b, p, err, lesser)
			}
			if p, err := order.Max(n, c.a, c.b); p != greater || err != nil {
				t.Fatalf("P8.2: Max(%d, %#x, %#x) = %#x, %v; want %#x", n, c.a, c.b, p, err, greater)
			}
		}
	}
}

// P8.2: ordinary patterns, NaR as the lesser one, negative ones, equal ones, bits above the width.
func TestMinAndMaxOfEdges(t *testing.T) {
	for _, c := range []struct {
		n               int
		a, b            uint64
		lesser, greater uint64
	}{
		{8, 0x80, 0, 0x80, 0},
		{8, 0xff, 0x101, 0xff, 0x01},
		{8, 0x40, 0x44, 0x40, 0x44},
		{8, 0xc0, 0xbc, 0xbc, 0xc0},
		{8, 0x80, 0x81, 0x80, 0x81},
		{8, 0x7f, 0x80, 0x80, 0x7f},
		{8, 0x180, 0x280, 0x80, 0x80},
		{8, 0x144, 0x44, 0x44, 0x44},
		{8, top, top, 0xff, 0xff},
		{16, 0x8000, 0xff, 0x8000, 0xff},
		{16, 0x1ffff, 0x10000, 0xffff, 0},
		{16, 0x7fff, 0x7ffe, 0x7ffe, 0x7fff},
		{32, 0x80000000, 0x80000001, 0x80000000, 0x80000001},
		{32, 0x1ffffffff, 0x200000000, 0xffffffff, 0},
		{32, 0x7fffffff, 0xffffffff, 0xffffffff, 0x7fffffff},
		{64, 1 << 63, 1<<63 - 1, 1 << 63, 1<<63 - 1},
		{64, top, 0, top, 0},
		{64, 5, 5, 5, 5},
	} {
		for _, d := range []pair{{c.a, c.b}, {c.b, c.a}} {
			if p, err := order.Min(c.n, d.a, d.b); p != c.lesser || err != nil {
				t.Errorf("P8.2: Min(%d, %#x, %#x) = %#x, %v; want %#x", c.n, d.a, d.b, p, err, c.lesser)
			}
			if p, err := order.Max(c.n, d.a, d.b); p != c.greater || err != nil {
				t.Errorf("P8.2: Max(%d, %#x, %#x) = %#x, %v; want %#x", c.n, d.a, d.b, p, err, c.greater)
			}
		}
	}
}

// P8.3: across Zero, at both ends, at NaR; with bits above the width too.
func TestNextAndPrevOfEdges(t *testing.T) {
	for _, n := range widths() {
		most, least := nar(n)-1, nar(n)+1
		for _, c := range []struct{ p, next, prev uint64 }{
			{0, 1, folded(n, top)},
			{1, 2, 0},
			{folded(n, top), 0, folded(n, top-1)},
			{nar(n) / 2, nar(n)/2 + 1, nar(n)/2 - 1},
			{most, most, most - 1},
			{most - 1, most, most - 2},
			{nar(n), nar(n), nar(n)},
			{least, least + 1, least},
			{least + 1, least + 2, least},
		} {
			for _, p := range []uint64{c.p, dirty(n, c.p), c.p | ^folded(n, top)} {
				if q, err := order.Next(n, p); q != c.next || err != nil {
					t.Errorf("P8.3: Next(%d, %#x) = %#x, %v; want %#x", n, p, q, err, c.next)
				}
				if q, err := order.Prev(n, p); q != c.prev || err != nil {
					t.Errorf("P8.3: Prev(%d, %#x) = %#x, %v; want %#x", n, p, q, err, c.prev)
				}
			}
		}
	}
}

// moved is the pattern whose rank is by more; of NaR, and beyond the ranks of numbers, the pattern itself.
func moved(n int, p uint64, by int64) uint64 {
	r := rank(n, p)
	r.Add(r, big.NewInt(by))
	if folded(n, p) == nar(n) || r.CmpAbs(power(n-1)) >= 0 {
		return folded(n, p)
	}
	return pattern(n, r)
}

// P8.3: against ranks without bounds.
func TestNextAndPrevAgainstTheRanks(t *testing.T) {
	for _, n := range widths() {
		for _, q := range patterns(n) {
			for _, p := range []uint64{q, dirty(n, q)} {
				if got, err := order.Next(n, p); got != moved(n, p, 1) || err != nil {
					t.Fatalf("P8.3: Next(%d, %#x) = %#x, %v; want %#x", n, p, got, err, moved(n, p, 1))
				}
				if got, err := order.Prev(n, p); got != moved(n, p, -1) || err != nil {
					t.Fatalf("P8.3: Prev(%d, %#x) = %#x, %v; want %#x", n, p, got, err, moved(n, p, -1))
				}
			}
		}
	}
}

// P8.4, P8.5: Zero, NaR, 1, the least and the greatest value, and their negatives; with bits above the width too.
func TestSignsOfEdges(t *testing.T) {
	for _, n := range widths() {
		one := nar(n) / 2
		for _, c := range []struct {
			p, neg, abs uint64
			sign        int
			err         error
		}{
			{0, 0, 0, 0, nil},
			{nar(n), nar(n), nar(n), 0, api.ErrNaR},
			{one, one + nar(n), one, 1, nil},
			{one + nar(n), one, one, -1, nil},
			{1, folded(n, top), 1, 1, nil},
			{folded(n, top), 1, 1, -1, nil},
			{nar(n) - 1, nar(n) + 1, nar(n) - 1, 1, nil},
			{nar(n) + 1, nar(n) - 1, nar(n) - 1, -1, nil},
		} {
			for _, p := range []uint64{c.p, dirty(n, c.p), c.p | ^folded(n, top)} {
				if q, err := order.Neg(n, p); q != c.neg || err != nil {
					t.Errorf("P8.4: Neg(%d, %#x) = %#x, %v; want %#x", n, p, q, err, c.neg)
				}
				if q, err := order.Abs(n, p); q != c.abs || err != nil {
					t.Errorf("P8.4: Abs(%d, %#x) = %#x, %v; want %#x", n, p, q, err, c.abs)
				}
				if k, err := order.Sign(n, p); k != c.sign || err != c.err {
					t.Errorf("P8.5: Sign(%d, %#x) = %d, %v; want %d, %v", n, p, k, err, c.sign, c.err)
				}
			}
		}
	}
}

// P8.4, P8.5: against ranks without bounds.
func TestSignsAgainstTheRanks(t *testing.T) {
	for _, n := range widths() {
		for _, q := range patterns(n) {
			for _, p := range []uint64{q, dirty(n, q)} {
				r := rank(n, p)
				neg := pattern(n, new(big.Int).Neg(r))
				if got, err := order.Neg(n, p); got != neg || err != nil {
					t.Fatalf("P8.4: Neg(%d, %#x) = %#x, %v; want %#x", n, p, got, err, neg)
				}
				// NaR's rank turned about is the same pattern again.
				abs := pattern(n, new(big.Int).Abs(r))
				if got, err := order.Abs(n, p); got != abs || err != nil {
					t.Fatalf("P8.4: Abs(%d, %#x) = %#x, %v; want %#x", n, p, got, err, abs)
				}
				sign, refused := r.Sign(), error(nil)
				if folded(n, p) == nar(n) {
					sign, refused = 0, api.ErrNaR
				}
				if got, err := order.Sign(n, p); got != sign || err != refused {
					t.Fatalf("P8.5: Sign(%d, %#x) = %d, %v; want %d, %v", n, p, got, err, sign, refused)
				}
			}
		}
	}
}

// P8.6: equal ones, neighbours, across Zero, from end to end, NaR as a rank like all; both ways.
func TestStepsOfEdges(t *testing.T) {
	for _, c := range []struct {
		n    int
		a, b uint64
		want uint64
	}{
		{8, 0xff, 0x01, 2},
		{8, 0, 0, 0},
		{8, 0x44, 0x144, 0},
		{8, 0x40, 0x48, 8},
		{8, 0xc0, 0x40, 0x80},
		{8, 0x80, 0x80, 0},
		{8, 0x80, 0x81, 1},
		{8, 0x80, 0, 0x80},
		{8, 0x81, 0x7f, 0xfe},
		{8, 0x80, 0x7f, 0xff},
		{8, 0x1ff, 0x200, 1},
		{16, 0xff, 0x01, 0xfe},
		{16, 0x8000, 0x7fff, 0xffff},
		{16, 0xffff, 0x10000, 1},
		{32, 0x80000000, 0x7fffffff, 0xffffffff},
		{32, 0xffffffff, 1, 2},
		{64, 1 << 63, 1<<63 - 1, top},
		{64, 1<<63 + 1, 1<<63 - 1, top - 1},
		{64, 1 << 63, 0, 1 << 63},
		{64, 1<<63 - 1, 0, 1<<63 - 1},
		{64, top, 1, 2},
		{64, 1 << 63, 1 << 63, 0},
	} {
		for _, d := range []pair{{c.a, c.b}, {c.b, c.a}} {
			if k, err := order.Steps(c.n, d.a, d.b); k != c.want || err != nil {
				t.Errorf("P8.6: Steps(%d, %#x, %#x) = %d, %v; want %d", c.n, d.a, d.b, k, err, c.want)
			}
		}
	}
}

// P8.6: against ranks without bounds.
func TestStepsAgainstTheRanks(t *testing.T) {
	for _, n := range widths() {
		for _, c := range pairs(n) {
			d := rank(n, c.a)
			want := d.Sub(d, rank(n, c.b)).Abs(d).Uint64()
			for _, e := range []pair{c, {c.b, c.a}} {
				if k, err := order.Steps(n, e.a, e.b); k != want || err != nil {
					t.Fatalf("P8.6: Steps(%d, %#x, %#x) = %d, %v; want %d", n, e.a, e.b, k, err, want)
				}
			}
		}
	}
}

// P8.7: within, below and above the limits, at them, limits that are equal or the wrong way about, NaR in each place, bits above the width.
func TestClampOfEdges(t *testing.T) {
	for _, c := range []struct {
		n         int
		p, lo, hi uint64
		want      uint64
		err       error
	}{
		{8, 0x7f, 0x40, 0x48, 0x48, nil},
		{8, 0, 0x48, 0x40, 0, api.ErrArg},
		{8, 0x44, 0x40, 0x48, 0x44, nil},
		{8, 0x40, 0x40, 0x48, 0x40, nil},
		{8, 0x48, 0x40, 0x48, 0x48, nil},
		{8, 0x3f, 0x40, 0x48, 0x40, nil},
		{8, 0x49, 0x40, 0x48, 0x48, nil},
		{8, 0xc0, 0x40, 0x48, 0x40, nil},
		{8, 0x40, 0xb8, 0xc0, 0xc0, nil},
		{8, 0x81, 0xb8, 0xc0, 0xb8, nil},
		{8, 0xbc, 0xb8, 0xc0, 0xbc, nil},
		{8, 0, 0xff, 0x01, 0, nil},
		{8, 0, 0x01, 0x7f, 0x01, nil},
		{8, 0, 0x81, 0xff, 0xff, nil},
		{8, 0x7f, 0x81, 0x7f, 0x7f, nil},
		{8, 0x81, 0x81, 0x7f, 0x81, nil},
		{8, 0x44, 0x40, 0x40, 0x40, nil},
		{8, 0x3c, 0x40, 0x40, 0x40, nil},
		{8, 0x40, 0x40, 0x40, 0x40, nil},
		{8, 0x44, 0x41, 0x40, 0, api.ErrArg},
		{8, 0x44, 0, 0xff, 0, api.ErrArg},
		{8, 0x44, 0x40, 0xc0, 0, api.ErrArg},
		{8, 0x44, 0xc0, 0xbf, 0, api.ErrArg},
		{8, 0x80, 0x40, 0x48, 0, api.ErrNaR},
		{8, 0x44, 0x80, 0x48, 0, api.ErrNaR},
		{8, 0x44, 0x40, 0x80, 0, api.ErrNaR},
		{8, 0x80, 0x48, 0x40, 0, api.ErrNaR},
		{8, 0x80, 0x80, 0x80, 0, api.ErrNaR},
		{8, 0x44, 0x80, 0x80, 0, api.ErrNaR},
		{8, 0x180, 0x40, 0x48, 0, api.ErrNaR},
		{8, 0x44, 0x180, 0x48, 0, api.ErrNaR},
		{8, 0x44, 0x40, 0x180, 0, api.ErrNaR},
		{8, 0x144, 0x40, 0x48, 0x44, nil},
		{8, 0x10, 0x140, 0x48, 0x40, nil},
		{8, 0x7f, 0x40, 0x148, 0x48, nil},
		{8, 0x44, 0x1ff, 0x200, 0, nil},
		{16, 0x80, 0, 0xff, 0x80, nil},
		{16, 0x8000, 0, 0xff, 0, api.ErrNaR},
		{16, 0xffff, 0, 0x17fff, 0, nil},
		{32, 0x7fffffff, 0x80000001, 0, 0, nil},
		{32, 0x80000000, 0x80000001, 0, 0, api.ErrNaR},
		{32, 0x8000, 1, 0, 0, api.ErrArg},
		{64, 1<<63 + 1, top, 1, top, nil},
		{64, 1<<63 - 1, top, 1, 1, nil},
		{64, 0, top, 1, 0, nil},
		{64, 0, 1, top, 0, api.ErrArg},
		{64, 1 << 63, 1, top, 0, api.ErrNaR},
		{64, 0, 1 << 63, 0, 0, api.ErrNaR},
		{64, 0, 0, 1 << 63, 0, api.ErrNaR},
	} {
		if q, err := order.Clamp(c.n, c.p, c.lo, c.hi); q != c.want || err != c.err {
			t.Errorf("P8.7: Clamp(%d, %#x, %#x, %#x) = %#x, %v; want %#x, %v", c.n, c.p, c.lo, c.hi, q, err, c.want, c.err)
		}
	}
}

// held is what Clamp has to answer, by the document's words.
func held(n int, c triple) (uint64, error) {
	p, lo, hi := rank(n, c.p), rank(n, c.lo), rank(n, c.hi)
	nan := new(big.Int).Neg(power(n - 1))
	switch {
	case p.Cmp(nan) == 0, lo.Cmp(nan) == 0, hi.Cmp(nan) == 0:
		return 0, api.ErrNaR
	case lo.Cmp(hi) > 0:
		return 0, api.ErrArg
	case p.Cmp(lo) < 0:
		return folded(n, c.lo), nil
	case p.Cmp(hi) > 0:
		return folded(n, c.hi), nil
	}
	return folded(n, c.p), nil
}

// P8.7: against ranks without bounds.
func TestClampAgainstTheRanks(t *testing.T) {
	for _, n := range widths() {
		for _, c := range triples(n) {
			want, refused := held(n, c)
			if q, err := order.Clamp(n, c.p, c.lo, c.hi); q != want || err != refused {
				t.Fatalf("P8.7: Clamp(%d, %#x, %#x, %#x) = %#x, %v; want %#x, %v", n, c.p, c.lo, c.hi, q, err, want, refused)
			}
		}
	}
}

// R3: what is no width is refused by each call, ahead of all else, whatever the patterns.
func TestRefusedWidths(t *testing.T) {
	unary := map[string]func(int, uint64) (uint64, error){"Next": order.Next, "Prev": order.Prev, "Neg": order.Neg, "Abs": order.Abs}
	binary := map[string]func(int, uint64, uint64) (uint64, error){"Min": order.Min, "Max": order.Max, "Steps": order.Steps}
	l := []uint64{0, 1, 0x40, 0x7f, 0x80, 0x81, 0xff, 0x8000, 1 << 31, 1 << 63, top}
	for _, n := range refusedWidths() {
		for i, p := range l {
			for name, call := range unary {
				if q, err := call(n, p); q != 0 || err != api.ErrWidth {
					t.Errorf("R3: %s(%d, %#x) = %#x, %v; want ErrWidth and 0", name, n, p, q, err)
				}
			}
			if k, err := order.Sign(n, p); k != 0 || err != api.ErrWidth {
				t.Errorf("R3: Sign(%d, %#x) = %d, %v; want ErrWidth and 0", n, p, k, err)
			}
			for j, q := range l {
				for name, call := range binary {
					if r, err := call(n, p, q); r != 0 || err != api.ErrWidth {
						t.Errorf("R3: %s(%d, %#x, %#x) = %#x, %v; want ErrWidth and 0", name, n, p, q, r, err)
					}
				}
				if k, err := order.Cmp(n, p, q); k != 0 || err != api.ErrWidth {
					t.Errorf("R3: Cmp(%d, %#x, %#x) = %d, %v; want ErrWidth and 0", n, p, q, k, err)
				}
				// Among these are limits the wrong way about, and NaR of each width.
				o := l[(i+j)%len(l)]
				if r, err := order.Clamp(n, p, q, o); r != 0 || err != api.ErrWidth {
					t.Errorf("R3: Clamp(%d, %#x, %#x, %#x) = %#x, %v; want ErrWidth and 0", n, p, q, o, r, err)
				}
			}
		}
	}
}

// P8.8, T2: the order of ranks is that of values, NaR below all.
func TestOrderOfRanksIsThatOfValues(t *testing.T) {
	for _, n := range widths() {
		e := edges(n)
		for _, a := range e {
			for _, b := range e {
				checkOrder(t, n, a, b)
			}
		}
		for i, p := range patterns(n) {
			checkOrder(t, n, p, e[i%len(e)])
			checkOrder(t, n, nar(n), p)
		}
		if t.Failed() {
			return
		}
	}
}

func checkOrder(t *testing.T, n int, a, b uint64) {
	va, vb := value(t, n, a), value(t, n, b)
	want := compareValues(va, vb)
	if k, err := order.Cmp(n, a, b); k != want || err != nil {
		t.Errorf("P8.8: Cmp(%d, %#x, %#x) = %d, %v; of values %d", n, a, b, k, err, want)
	}
	if p, err := order.Max(n, a, b); err != nil || compareValues(value(t, n, p), va) < 0 || compareValues(value(t, n, p), vb) < 0 {
		t.Errorf("P8.8: Max(%d, %#x, %#x) = %#x, %v, which is less than one of them", n, a, b, p, err)
	}
	if p, err := order.Min(n, a, b); err != nil || compareValues(value(t, n, p), va) > 0 || compareValues(value(t, n, p), vb) > 0 {
		t.Errorf("P8.8: Min(%d, %#x, %#x) = %#x, %v, which is more than one of them", n, a, b, p, err)
	}
}

// P8.8: the values of neighbours and of negatives; the sign is the value's.
func TestNeighboursAndNegativesOfValues(t *testing.T) {
	for _, n := range widths() {
		for _, p := range patterns(n) {
			v := value(t, n, p)
			next, _ := order.Next(n, p)
			neg, _ := order.Neg(n, p)
			abs, _ := order.Abs(n, p)
			if v == nil {
				if next != nar(n) || neg != nar(n) || abs != nar(n) {
					t.Errorf("P8.8: width %d: NaR's Next %#x, Neg %#x, Abs %#x", n, next, neg, abs)
				}
				continue
			}
			if compareValues(value(t, n, next), v) <= 0 && folded(n, p) != nar(n)-1 {
				t.Fatalf("P8.8: Next(%d, %#x) = %#x, whose value isn't greater", n, p, next)
			}
			if compareValues(value(t, n, neg), new(big.Rat).Neg(v)) != 0 {
				t.Fatalf("P8.8: Neg(%d, %#x) = %#x, whose value is not the negative", n, p, neg)
			}
			if compareValues(value(t, n, abs), new(big.Rat).Abs(v)) != 0 {
				t.Fatalf("P8.4: Abs(%d, %#x) = %#x, whose value is not the absolute one", n, p, abs)
			}
			if k, err := order.Sign(n, p); k != v.Sign() || err != nil {
				t.Fatalf("P8.5: Sign(%d, %#x) = %d, %v; the value's is %d", n, p, k, err, v.Sign())
			}
		}
	}
}

// P8.8: Prev takes Next back, and Next Prev, but at the ends; Neg takes itself back, and turns Next into Prev.
func TestPrevTakesNextBack(t *testing.T) {
	for _, n := range widths() {
		for _, q := range patterns(n) {
			p := folded(n, q)
			next, _ := order.Next(n, dirty(n, p))
			prev, _ := order.Prev(n, dirty(n, p))
			if back, err := order.Prev(n, next); p != nar(n)-1 && back != p || err != nil {
				t.Fatalf("P8.8: Prev(%d, Next of %#x) = %#x, %v", n, p, back, err)
			}
			if back, err := order.Next(n, prev); p != nar(n)+1 && back != p || err != nil {
				t.Fatalf("P8.8: Next(%d, Prev of %#x) = %#x, %v", n, p, back, err)
			}
			neg, _ := order.Neg(n, p)
			if back, err := order.Neg(n, neg); back != p || err != nil {
				t.Fatalf("P8.4: Neg(%d, Neg of %#x) = %#x, %v", n, p, back, err)
			}
			turned, _ := order.Neg(n, next)
			if mirrored, err := order.Prev(n, neg); mirrored != turned || err != nil {
				t.Fatalf("P8.8: Prev(%d, Neg of %#x) = %#x, %v; want Neg of Next %#x", n, p, mirrored, err, turned)
			}
		}
	}
}

// P8.8: all numbers of the widths 8 and 16, gone through by Next, and back by Prev: Steps counts them, from wherever one starts.
func TestStepsCountsNextFromEndToEnd(t *testing.T) {
	for _, n := range []int{8, 16} {
		least, most := nar(n)+1, nar(n)-1
		p := least
		for k := range uint64(1)<<n - 2 {
			checkSteps(t, n, least, p, k)
			checkSteps(t, n, p, most, uint64(1)<<n-2-k)
			p, _ = order.Next(n, p)
		}
		if p != most {
			t.Errorf("P8.8: width %d: Next leads to %#x; want %#x", n, p, most)
		}
		for range uint64(1)<<n - 2 {
			p, _ = order.Prev(n, p)
		}
		if p != least {
			t.Errorf("P8.8: width %d: Prev leads to %#x; want %#x", n, p, least)
		}
	}
}

// P8.8: of every width some steps from each edge on.
func TestStepsCountsNextFromEdges(t *testing.T) {
	for _, n := range widths() {
		for _, start := range edges(n) {
			p := start
			for k := range uint64(50) {
				checkSteps(t, n, start, p, k)
				q, _ := order.Next(n, p)
				if q == p {
					break
				}
				p = q
			}
		}
	}
}

func checkSteps(t *testing.T, n int, a, b, want uint64) {
	for _, c := range []pair{{a, b}, {b, a}} {
		if k, err := order.Steps(n, c.a, c.b); k != want || err != nil {
			t.Fatalf("P8.8: Steps(%d, %#x, %#x) = %d, %v; Next leads there in %d", n, c.a, c.b, k, err, want)
		}
	}
}

// P8.1, P8.7: Clamp is what Max and Min make of it, where no NaR is there and the limits are in order; clamped twice is the same.
func TestClampAgreesWithMinAndMax(t *testing.T) {
	for _, n := range widths() {
		for _, c := range triples(n) {
			q, err := order.Clamp(n, c.p, c.lo, c.hi)
			if err != nil {
				continue
			}
			low, _ := order.Max(n, c.p, c.lo)
			if want, _ := order.Min(n, low, c.hi); q != want {
				t.Fatalf("P8.7: Clamp(%d, %#x, %#x, %#x) = %#x; by Max and Min %#x", n, c.p, c.lo, c.hi, q, want)
			}
			if again, err := order.Clamp(n, q, c.lo, c.hi); again != q || err != nil {
				t.Fatalf("P8.7: Clamp(%d, %#x, %#x, %#x) = %#x, %v, but it was clamped", n, q, c.lo, c.hi, again, err)
			}
		}
	}
}
