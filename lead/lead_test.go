package lead_test

import (
	"math"
	"math/bits"
	"strconv"
	"strings"
	"testing"

	"vernier/api"
	"vernier/lead"
)

const top = math.MaxUint64

// words are the edges, all powers of two with their neighbours, and a row of mixed ones by a fixed rule.
func words() []uint64 {
	l := []uint64{0, top, 0xabcd, 0x5555555555555555, 0xaaaaaaaaaaaaaaaa, math.MaxInt64}
	for i := range 64 {
		one := uint64(1) << i
		l = append(l, one, one-1, ^one, -one)
	}
	x := uint64(1)
	for range 64 {
		x = x*6364136223846793005 + 1442695040888963407
		l = append(l, x, x>>32, x<<32)
	}
	return l
}

// refusedCounts are no count and no place in a word, whatever the call.
func refusedCounts() []int {
	return []int{-1, -2, -64, -65, 65, 66, 128, 1 << 32, math.MinInt, math.MinInt + 1, math.MaxInt, math.MaxInt - 1}
}

// row is a word as its 64 bits, the lowest first, so that a field is a piece of it.
type row [64]byte

func rowOf(x uint64) *row {
	var r row
	for i := range r {
		r[i] = byte(x % 2)
		x /= 2
	}
	return &r
}

func (r *row) field(at, n int) uint64 {
	var v uint64
	for i := at + n - 1; i >= at; i-- {
		v = v*2 + uint64(r[i])
	}
	return v
}

func (r *row) put(at, n int, v uint64) uint64 {
	copy(r[at:at+n], rowOf(v)[:n])
	return r.field(0, 64)
}

// P1.1: ordinary fields, and those of 1 and 64 bits.
func TestRunTellsTheHeadAndItsRow(t *testing.T) {
	for _, c := range []struct {
		x    uint64
		n    int
		ones bool
		k    int
	}{
		{0b0010, 4, false, 2},
		{0b1110, 4, true, 3},
		{0b1101, 4, true, 2},
		{0b0111, 4, false, 1},
		{0, 1, false, 1},
		{1, 1, true, 1},
		{2, 1, false, 1},
		{3, 1, true, 1},
		{0, 64, false, 64},
		{1, 64, false, 63},
		{top, 64, true, 64},
		{top - 1, 64, true, 63},
		{1 << 63, 64, true, 1},
		{math.MaxInt64, 64, false, 1},
		{0, 63, false, 63},
		{top, 63, true, 63},
		{0, 8, false, 8},
		{0xff, 8, true, 8},
		{0xff00, 8, false, 8},
		{top &^ 0xff, 8, false, 8},
		{0x80, 8, true, 1},
	} {
		if ones, k, err := lead.Run(c.x, c.n); ones != c.ones || k != c.k || err != nil {
			t.Errorf("P1.1: Run(%#x, %d) = %v, %d, %v; want %v, %d", c.x, c.n, ones, k, err, c.ones, c.k)
		}
	}
}

// P1.1: every width, against a count bit by bit.
func TestRunAgainstACountBitByBit(t *testing.T) {
	for _, x := range words() {
		for n := 1; n <= 64; n++ {
			r, want := rowOf(x), 1
			for want < n && r[n-1-want] == r[n-1] {
				want++
			}
			if ones, k, err := lead.Run(x, n); ones != (r[n-1] == 1) || k != want || err != nil {
				t.Fatalf("P1.1: Run(%#x, %d) = %v, %d, %v; want %v, %d", x, n, ones, k, err, r[n-1] == 1, want)
			}
		}
	}
}

// P1.1: there is no head of no bits.
func TestRunRefusesCounts(t *testing.T) {
	for _, n := range append(refusedCounts(), 0) {
		for _, x := range []uint64{0, 5, top} {
			if ones, k, err := lead.Run(x, n); ones || k != 0 || err != api.ErrArg {
				t.Errorf("P1.1: Run(%#x, %d) = %v, %d, %v; want ErrArg and nothing else", x, n, ones, k, err)
			}
		}
	}
}

// P1.2: the edges, and all powers of two.
func TestLen(t *testing.T) {
	for x, want := range map[uint64]int{0: 0, 1: 1, 2: 2, 3: 2, 4: 3, 255: 8, 256: 9, math.MaxInt64: 63, 1 << 63: 64, top: 64} {
		if k := lead.Len(x); k != want {
			t.Errorf("P1.2: Len(%#x) = %d; want %d", x, k, want)
		}
	}
	for _, x := range words() {
		want := 0
		for y := x; y > 0; y /= 2 {
			want++
		}
		if k := lead.Len(x); k != want {
			t.Errorf("P1.2: Len(%#x) = %d; want %d", x, k, want)
		}
	}
}

// P1.3: the edges, and all powers of two.
func TestTrail(t *testing.T) {
	for x, want := range map[uint64]int{0: 64, 1: 0, 2: 1, 8: 3, 12: 2, 1 << 63: 63, top: 0, top - 1: 1} {
		if k := lead.Trail(x); k != want {
			t.Errorf("P1.3: Trail(%#x) = %d; want %d", x, k, want)
		}
	}
	for _, x := range words() {
		r, want := rowOf(x), 0
		for want < 64 && r[want] == 0 {
			want++
		}
		if k := lead.Trail(x); k != want {
			t.Errorf("P1.3: Trail(%#x) = %d; want %d", x, k, want)
		}
	}
}

// P1.4: every count from 0 to 64.
func TestMask(t *testing.T) {
	var want uint64
	for n := range 65 {
		if m, err := lead.Mask(n); m != want || err != nil {
			t.Errorf("P1.4: Mask(%d) = %#x, %v; want %#x", n, m, err, want)
		}
		want = want*2 + 1
	}
	for n, want := range map[int]uint64{0: 0, 1: 1, 3: 7, 63: math.MaxInt64, 64: top} {
		if m, err := lead.Mask(n); m != want || err != nil {
			t.Errorf("P1.4: Mask(%d) = %#x, %v; want %#x", n, m, err, want)
		}
	}
}

// P1.4: no other count.
func TestMaskRefusesCounts(t *testing.T) {
	for _, n := range refusedCounts() {
		if m, err := lead.Mask(n); m != 0 || err != api.ErrArg {
			t.Errorf("P1.4: Mask(%d) = %#x, %v; want ErrArg and nothing else", n, m, err)
		}
	}
}

// P1.5: ordinary fields, and those at a word's ends.
func TestField(t *testing.T) {
	for _, c := range []struct {
		x     uint64
		at, n int
		want  uint64
	}{
		{0xabcd, 4, 8, 0xbc},
		{0xabcd, 0, 4, 0xd},
		{0xabcd, 12, 52, 0xa},
		{1, 64, 0, 0},
		{top, 64, 0, 0},
		{top, 0, 0, 0},
		{top, 63, 0, 0},
		{top, 63, 1, 1},
		{top, 1, 63, math.MaxInt64},
		{top, 0, 64, top},
		{0, 0, 64, 0},
		{1, 60, 4, 0},
	} {
		if f, err := lead.Field(c.x, c.at, c.n); f != c.want || err != nil {
			t.Errorf("P1.5: Field(%#x, %d, %d) = %#x, %v; want %#x", c.x, c.at, c.n, f, err, c.want)
		}
	}
}

// P1.6: ordinary fields, those at a word's ends, and a v with more bits than are taken.
func TestPut(t *testing.T) {
	for _, c := range []struct {
		x     uint64
		at, n int
		v     uint64
		want  uint64
	}{
		{0xabcd, 4, 8, 0x123, 0xa23d},
		{0xabcd, 0, 16, 0, 0},
		{0, 60, 4, top, 0xf000000000000000},
		{top, 60, 4, 0, 0x0fffffffffffffff},
		{0xabcd, 64, 0, top, 0xabcd},
		{0xabcd, 0, 0, top, 0xabcd},
		{0xabcd, 63, 1, top, 0x800000000000abcd},
		{0xabcd, 63, 1, top - 1, 0xabcd},
		{0xabcd, 0, 64, top, top},
		{top, 0, 64, 0, 0},
		{top, 1, 63, 0, 1},
	} {
		if p, err := lead.Put(c.x, c.at, c.n, c.v); p != c.want || err != nil {
			t.Errorf("P1.6: Put(%#x, %d, %d, %#x) = %#x, %v; want %#x", c.x, c.at, c.n, c.v, p, err, c.want)
		}
	}
}

// P1.5, P1.6, P1.10: every place and count, against the bits one by one; what is put comes back, and the rest stays.
func TestFieldAndPutAtEveryPlace(t *testing.T) {
	l := words()
	for i, x := range l {
		v := l[(i+101)%len(l)]
		for at := 0; at <= 64; at++ {
			for n := 0; n <= 64-at; n++ {
				checkFieldAndPut(t, x, at, n, v)
			}
		}
		if t.Failed() {
			return
		}
	}
}

func checkFieldAndPut(t *testing.T, x uint64, at, n int, v uint64) {
	f, err := lead.Field(x, at, n)
	if want := rowOf(x).field(at, n); f != want || err != nil {
		t.Errorf("P1.5: Field(%#x, %d, %d) = %#x, %v; want %#x", x, at, n, f, err, want)
	}
	p, err := lead.Put(x, at, n, v)
	if want := rowOf(x).put(at, n, v); p != want || err != nil {
		t.Errorf("P1.6: Put(%#x, %d, %d, %#x) = %#x, %v; want %#x", x, at, n, v, p, err, want)
	}
	back, err := lead.Field(p, at, n)
	if want := rowOf(v).field(0, n); back != want || err != nil {
		t.Errorf("P1.10: Field of Put(%#x, %d, %d, %#x) = %#x, %v; want %#x", x, at, n, v, back, err, want)
	}
	changed := x ^ p
	if bits.TrailingZeros64(changed) < at || bits.Len64(changed) > at+n {
		t.Errorf("P1.10: Put(%#x, %d, %d, %#x) = %#x changes bits elsewhere", x, at, n, v, p)
	}
}

// P1.5, P1.6: no place and no count beyond the word, alone or together.
func TestFieldAndPutRefusePlaces(t *testing.T) {
	type place struct{ at, n int }
	l := []place{{60, 5}, {64, 1}, {1, 64}, {63, 2}, {0, 65}, {65, 0}, {65, -1}, {-1, 1}, {-1, 65}, {66, -2}, {0, -1}, {64, -1}, {32, 33}}
	for _, k := range refusedCounts() {
		l = append(l, place{k, 0}, place{k, 1}, place{k, 64}, place{0, k}, place{64, k}, place{k, k}, place{k, -k}, place{k, 64 - k})
	}
	for _, c := range l {
		if f, err := lead.Field(top, c.at, c.n); f != 0 || err != api.ErrArg {
			t.Errorf("P1.5: Field(all ones, %d, %d) = %#x, %v; want ErrArg and nothing else", c.at, c.n, f, err)
		}
		if p, err := lead.Put(top, c.at, c.n, top); p != 0 || err != api.ErrArg {
			t.Errorf("P1.6: Put(all ones, %d, %d, all ones) = %#x, %v; want ErrArg and nothing else", c.at, c.n, p, err)
		}
	}
}

// P1.7: ordinary numbers, and the ends of each range.
func TestExtend(t *testing.T) {
	for _, c := range []struct {
		x uint64
		n int
		v int64
	}{
		{0xff, 8, -1},
		{0x7f, 8, 127},
		{0x80, 8, -128},
		{0x180, 8, -128},
		{0x17f, 8, 127},
		{0, 1, 0},
		{1, 1, -1},
		{2, 1, 0},
		{3, 1, -1},
		{0, 64, 0},
		{1, 64, 1},
		{top, 64, -1},
		{1 << 63, 64, math.MinInt64},
		{math.MaxInt64, 64, math.MaxInt64},
		{math.MaxInt64, 63, -1},
		{top, 63, -1},
		{1 << 62, 63, -1 << 62},
	} {
		if v, err := lead.Extend(c.x, c.n); v != c.v || err != nil {
			t.Errorf("P1.7: Extend(%#x, %d) = %d, %v; want %d", c.x, c.n, v, err, c.v)
		}
	}
}

// P1.7: every count: the highest bit is worth -2^(n - 1), the others what they always are.
func TestExtendAgainstTheBitsWorth(t *testing.T) {
	for _, x := range words() {
		for n := 1; n <= 64; n++ {
			r := rowOf(x)
			want := int64(r.field(0, n-1))
			if r[n-1] == 1 {
				want += int64(-1) << (n - 1)
			}
			if v, err := lead.Extend(x, n); v != want || err != nil {
				t.Fatalf("P1.7: Extend(%#x, %d) = %d, %v; want %d", x, n, v, err, want)
			}
		}
	}
}

// P1.7: there is no number of no bits.
func TestExtendRefusesCounts(t *testing.T) {
	for _, n := range append(refusedCounts(), 0) {
		for _, x := range []uint64{0, 5, top} {
			if v, err := lead.Extend(x, n); v != 0 || err != api.ErrArg {
				t.Errorf("P1.7: Extend(%#x, %d) = %d, %v; want ErrArg and nothing else", x, n, v, err)
			}
		}
	}
}

// P1.8: ordinary texts, the empty one and those of a whole word.
func TestShow(t *testing.T) {
	for _, c := range []struct {
		x    uint64
		n    int
		want string
	}{
		{5, 4, "0101"},
		{5, 0, ""},
		{top, 0, ""},
		{5, 1, "1"},
		{4, 1, "0"},
		{5, 2, "01"},
		{0xabcd, 16, "1010101111001101"},
		{0, 64, strings.Repeat("0", 64)},
		{top, 64, strings.Repeat("1", 64)},
		{top, 63, strings.Repeat("1", 63)},
		{1 << 63, 64, "1" + strings.Repeat("0", 63)},
		{1, 64, strings.Repeat("0", 63) + "1"},
	} {
		if s, err := lead.Show(c.x, c.n); s != c.want || err != nil {
			t.Errorf("P1.8: Show(%#x, %d) = %q, %v; want %q", c.x, c.n, s, err, c.want)
		}
	}
}

// P1.8: every count is the tail of the word's own digits.
func TestShowAgainstTheWordsDigits(t *testing.T) {
	for _, x := range words() {
		digits := strconv.FormatUint(x, 2)
		digits = strings.Repeat("0", 64-len(digits)) + digits
		for n := range 65 {
			if s, err := lead.Show(x, n); s != digits[64-n:] || err != nil {
				t.Fatalf("P1.8: Show(%#x, %d) = %q, %v; want %q", x, n, s, err, digits[64-n:])
			}
		}
	}
}

// P1.8: no other count.
func TestShowRefusesCounts(t *testing.T) {
	for _, n := range refusedCounts() {
		if s, err := lead.Show(top, n); s != "" || err != api.ErrArg {
			t.Errorf("P1.8: Show(all ones, %d) = %q, %v; want ErrArg and nothing else", n, s, err)
		}
	}
}

// P1.9: ordinary texts, the empty one and those of 64 bytes.
func TestRead(t *testing.T) {
	for s, want := range map[string]uint64{
		"":                              0,
		"0":                             0,
		"1":                             1,
		"10":                            2,
		"01":                            1,
		"0101":                          5,
		"1010101111001101":              0xabcd,
		strings.Repeat("0", 64):         0,
		strings.Repeat("1", 64):         top,
		strings.Repeat("1", 63):         math.MaxInt64,
		"1" + strings.Repeat("0", 63):   1 << 63,
		strings.Repeat("0", 63) + "1":   1,
		"01" + strings.Repeat("0", 62):  1 << 62,
		strings.Repeat("01", 32):        0x5555555555555555,
		strings.Repeat("10100011", 8):   0xa3a3a3a3a3a3a3a3,
		strings.Repeat("0", 60) + "101": 5,
	} {
		if x, err := lead.Read(s); x != want || err != nil {
			t.Errorf("P1.9: Read(%q) = %#x, %v; want %#x", s, x, err, want)
		}
	}
}

// P1.9: a byte that is no digit, every one of them, ahead, between and behind, up to the last of 64.
func TestReadRefusesOtherBytes(t *testing.T) {
	for b := range 256 {
		if b == '0' || b == '1' {
			continue
		}
		c := string([]byte{byte(b)})
		for _, s := range []string{c, c + "1", "1" + c, "0" + c + "1", strings.Repeat("1", 63) + c, c + strings.Repeat("0", 63)} {
			if x, err := lead.Read(s); x != 0 || err != api.ErrDigits {
				t.Errorf("P1.9: Read(%q) = %#x, %v; want ErrDigits and nothing else", s, x, err)
			}
		}
	}
	for _, s := range []string{"0b1", "0x1", "1_0", "+1", "-1", "１", "٠"} {
		if x, err := lead.Read(s); x != 0 || err != api.ErrDigits {
			t.Errorf("P1.9: Read(%q) = %#x, %v; want ErrDigits and nothing else", s, x, err)
		}
	}
}

// P1.9: a text that is too long is refused as such, whatever its bytes are.
func TestReadRefusesLongTexts(t *testing.T) {
	for _, s := range []string{
		strings.Repeat("0", 65),
		strings.Repeat("1", 65),
		"0" + strings.Repeat("1", 64),
		"2" + strings.Repeat("0", 64),
		strings.Repeat("0", 64) + "2",
		strings.Repeat(" ", 65),
		strings.Repeat("１", 22),
		strings.Repeat("0", 1<<20),
	} {
		if x, err := lead.Read(s); x != 0 || err != api.ErrLong {
			t.Errorf("P1.9: Read of %d bytes = %#x, %v; want ErrLong and nothing else", len(s), x, err)
		}
	}
}

// P1.10: what is shown is read again as the lowest bits.
func TestReadOfShow(t *testing.T) {
	for _, x := range words() {
		for n := range 65 {
			s, err := lead.Show(x, n)
			if err != nil {
				t.Fatalf("P1.10: Show(%#x, %d): %v", x, n, err)
			}
			want := rowOf(x).field(0, n)
			if y, err := lead.Read(s); y != want || err != nil {
				t.Fatalf("P1.10: Read(Show(%#x, %d)) = %#x, %v; want %#x", x, n, y, err, want)
			}
		}
	}
}

// P1.10: with all bits turned the row is as long, of the other bit.
func TestRunOfTurnedBits(t *testing.T) {
	for _, x := range words() {
		for n := 1; n <= 64; n++ {
			ones, k, err := lead.Run(x, n)
			turned, j, errTurned := lead.Run(^x, n)
			if ones == turned || k != j || err != nil || errTurned != nil {
				t.Fatalf("P1.10: Run(%#x, %d) = %v, %d, %v; with the bits turned %v, %d, %v", x, n, ones, k, err, turned, j, errTurned)
			}
		}
	}
}
