package nat_test

import (
	"math"
	"math/big"
	"slices"
	"testing"

	"vernier/api"
	"vernier/nat"
)

// mark is what stands in the spare room of what is handed in.
const mark = 0x6d61726b6d61726b

// call is one of the package's calls on two numbers, with all the lists that it answers.
type call struct {
	name string
	of   func(a, b api.Nat) []api.Nat
}

// calls are all calls that answer numbers, with arguments of each sort.
func calls() []call {
	l := []call{
		{"Of", func(a, b api.Nat) []api.Nat { return []api.Nat{nat.Of(5), nat.Of(0)} }},
		{"Ten", func(a, b api.Nat) []api.Nat { return tens(0, 1, 40) }},
		{"Read", func(a, b api.Nat) []api.Nat { return reads("0", "7", "98765432109876543210987") }},
		{"Add of none", func(a, b api.Nat) []api.Nat { return []api.Nat{nat.Add(), nat.Mul()} }},
		{"Add of one", func(a, b api.Nat) []api.Nat { return []api.Nat{nat.Add(a), nat.Add(b)} }},
		{"Mul of one", func(a, b api.Nat) []api.Nat { return []api.Nat{nat.Mul(a), nat.Mul(b)} }},
		{"Add", func(a, b api.Nat) []api.Nat { return []api.Nat{nat.Add(a, b), nat.Add(a, nil, b), nat.Add(a, a)} }},
		{"Mul", func(a, b api.Nat) []api.Nat {
			return []api.Nat{nat.Mul(a, b), nat.Mul(a, api.Nat{1}, b), nat.Mul(a, a)}
		}},
		{"Sub", func(a, b api.Nat) []api.Nat { return both(nat.Sub(a, b)) }},
		{"Sub of itself", func(a, b api.Nat) []api.Nat { return both(nat.Sub(a, a)) }},
		{"Div", func(a, b api.Nat) []api.Nat { return first(nat.Div(a, b)) }},
		{"Div by itself", func(a, b api.Nat) []api.Nat { return first(nat.Div(a, a)) }},
		{"Text", func(a, b api.Nat) []api.Nat { return reads(nat.Text(a), nat.Text(b)) }},
		{"Bits, Cmp", func(a, b api.Nat) []api.Nat {
			return []api.Nat{nat.Of(uint64(nat.Bits(a))), nat.Of(uint64(nat.Cmp(a, b) + 1))}
		}},
		{"Top", func(a, b api.Nat) []api.Nat {
			upper, below, _, _ := nat.Top(a, 7)
			return []api.Nat{nat.Of(upper), nat.Of(uint64(below))}
		}},
	}
	for _, k := range []int{-1, 0, 1, 64, 65, 128, 65536, 65537, math.MaxInt} {
		l = append(l,
			call{"Shl", func(a, b api.Nat) []api.Nat { return both(nat.Shl(a, k)) }},
			call{"Shr", func(a, b api.Nat) []api.Nat {
				s, _, _ := nat.Shr(a, k)
				return []api.Nat{s}
			}})
	}
	return l
}

// both is the list of a call that answers one, and perhaps an error.
func both(a api.Nat, _ error) []api.Nat { return []api.Nat{a} }

// first are the lists of a call that answers two, and perhaps an error.
func first(a, b api.Nat, _ error) []api.Nat { return []api.Nat{a, b} }

// tens are powers of ten.
func tens(places ...int) []api.Nat {
	var l []api.Nat
	for _, k := range places {
		a, _ := nat.Ten(k)
		l = append(l, a)
	}
	return l
}

// reads are the numbers of texts.
func reads(texts ...string) []api.Nat {
	var l []api.Nat
	for _, s := range texts {
		a, _ := nat.Read(s)
		l = append(l, a)
	}
	return l
}

// roomy is a with spare room behind it, full of marks; and the whole of it.
func roomy(a api.Nat) (api.Nat, api.Nat) {
	whole := append(slices.Clone(a), mark, mark, mark)
	return whole[:len(a)], whole
}

// copies are lists that share nothing with l.
func copies(l []api.Nat) []api.Nat {
	var c []api.Nat
	for _, a := range l {
		c = append(c, slices.Clone(a))
	}
	return c
}

// same tells whether two rows of lists hold the same limbs.
func same(a, b []api.Nat) bool {
	return slices.EqualFunc(a, b, func(x, y api.Nat) bool { return slices.Equal(x, y) })
}

// scribble fills a list, and its spare room.
func scribble(a api.Nat) {
	for i := range a[:cap(a)] {
		a[:cap(a)][i] = ^uint64(mark)
	}
}

// R4: what is handed in is not changed, its spare room neither; nothing of it, nor of one list of an answer, is another list's of an answer.
func TestMemory(t *testing.T) {
	some := []api.Nat{nil, {0}, {1}, {5, 0, 0}, {top}, {0, 1}, {3, 9}, {9, 3, 0}, {1, 2, 3}, {top, top, top, top}, {0, 0, 1 << 63}, mixed(6, 1)}
	for _, c := range calls() {
		for _, x := range some {
			for _, y := range some {
				a, wholeA := roomy(x)
				b, wholeB := roomy(y)
				handed := copies([]api.Nat{wholeA, wholeB})
				got := c.of(a, b)
				if !same(handed, []api.Nat{wholeA, wholeB}) {
					t.Fatalf("R4: %s of %v, %v changed what was handed in: %v, %v", c.name, x, y, wholeA, wholeB)
				}
				want := copies(got)
				checkApart(t, c.name, got, want)
				if !same(handed, []api.Nat{wholeA, wholeB}) {
					t.Fatalf("R4: %s of %v, %v answered memory of what was handed in", c.name, x, y)
				}
				if again := c.of(a, b); !same(again, want) {
					t.Fatalf("R5: %s of %v, %v = %v, then %v", c.name, x, y, want, again)
				}
				kept := c.of(a, b)
				scribble(wholeA)
				scribble(wholeB)
				if !same(kept, want) {
					t.Fatalf("R4: %s of %v, %v kept what was handed in", c.name, x, y)
				}
			}
		}
	}
}

// checkApart fills each list of an answer, its spare room too, and fails, if another one changes by it.
func checkApart(t *testing.T, name string, got, want []api.Nat) {
	t.Helper()
	for i, a := range got {
		scribble(a)
		for j := i + 1; j < len(got); j++ {
			if !slices.Equal(got[j], want[j]) {
				t.Fatalf("R4: two lists of what %s answered share memory", name)
			}
		}
	}
}

// R4: the list of numbers that is handed in is not changed either; numbers that share one piece of memory are reckoned with as any others.
func TestListsHandedIn(t *testing.T) {
	piece := api.Nat{7, 0, 1 << 63, 0, 0, mark}
	l := []api.Nat{piece[:2], piece[:4], piece[2:5], piece[:0]}
	before := copies(append(slices.Clone(l), piece))
	sum, product, nought := nat.Add(l...), nat.Mul(l[:3]...), nat.Mul(l...)
	less, _ := nat.Sub(piece[:4], piece[:2])
	q, left, _ := nat.Div(piece[:4], piece[:2])
	if !same(before, append(slices.Clone(l), piece)) {
		t.Errorf("R4: what was handed in was changed: %v of %v", l, piece)
	}
	for i, room := range []int{6, 6, 4, 6} {
		if cap(l[i]) != room {
			t.Errorf("R4: the list that was handed in was changed: at %d is room for %d limbs", i, cap(l[i]))
		}
	}
	check(t, sum, new(big.Int).Add(new(big.Int).Add(great(l[0]), great(l[1])), great(l[2])), "P4.2: Add", l)
	check(t, product, new(big.Int).Mul(new(big.Int).Mul(great(l[0]), great(l[1])), great(l[2])), "P4.2: Mul", l)
	check(t, nought, big.NewInt(0), "P4.2: Mul", l)
	check(t, less, great(api.Nat{0, 0, 1 << 63}), "P4.3: Sub", l)
	check(t, nat.Add(nat.Mul(q, l[0]), left), great(l[1]), "P4.9: Div", l)
}

// The chapter's way: an answer's room ends where its limbs end, so that growing it takes new memory.
func TestRoomEnds(t *testing.T) {
	long := api.Nat{1, 0, 0, 0, 1}
	short := api.Nat{0, 0, 0, 0, 1}
	a, _ := nat.Sub(long, short)
	q, left, _ := nat.Div(long, short)
	_, all, _ := nat.Div(short, long)
	s, _, _ := nat.Shr(long, 256)
	up, _ := nat.Shl(long, 3)
	for _, x := range []api.Nat{a, q, left, all, s, up, nat.Add(a, a), nat.Mul(long, short), nat.Of(0), nat.Of(7)} {
		if len(x) != cap(x) {
			t.Errorf("Ways: %v has room for %d limbs", x, cap(x))
		}
	}
}
