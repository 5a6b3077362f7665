package gen_test

import "vernier/gen"

// Types of a caller's own: with one of the language's as their underlying type, told by it or by the chapter's.
type (
	own8   uint8
	own16  uint16
	own32  uint32
	own64  uint64
	late8  gen.P8
	late16 gen.P16
	late32 gen.P32
	late64 gen.P64
)

// face is what the package answers at one type, with patterns told as words.
type face struct {
	name               string
	n                  int
	width              func() int
	add, sub, mul, div func(a, b uint64) uint64
	sqrt, neg          func(a uint64) uint64
	fma                func(a, b, c uint64) uint64
	cmp                func(a, b uint64) int
	horner             func(l []uint64, x uint64) uint64
	to                 []way
}

// way is what To answers from one type to another one.
type way struct {
	name string
	m    int
	call func(p uint64) uint64
}

// faces are those of the four types of the chapter, of a caller's own, and of the language's.
func faces() []face {
	return []face{
		faceOf[gen.P8]("P8", 8), faceOf[gen.P16]("P16", 16), faceOf[gen.P32]("P32", 32), faceOf[gen.P64]("P64", 64),
		faceOf[own8]("own8", 8), faceOf[own16]("own16", 16), faceOf[own32]("own32", 32), faceOf[own64]("own64", 64),
		faceOf[late8]("late8", 8), faceOf[late16]("late16", 16), faceOf[late32]("late32", 32), faceOf[late64]("late64", 64),
		faceOf[uint8]("uint8", 8), faceOf[uint16]("uint16", 16), faceOf[uint32]("uint32", 32), faceOf[uint64]("uint64", 64),
	}
}

// facesOf are those of one width.
func facesOf(n int) []face {
	var l []face
	for _, f := range faces() {
		if f.n == n {
			l = append(l, f)
		}
	}
	return l
}

// faceOf is that of a type, of which the width is told.
func faceOf[T gen.Pattern](name string, n int) face {
	return face{
		name:   name,
		n:      n,
		width:  gen.Width[T],
		add:    withTwo(gen.Add[T]),
		sub:    withTwo(gen.Sub[T]),
		mul:    withTwo(gen.Mul[T]),
		div:    withTwo(gen.Div[T]),
		sqrt:   withOne(gen.Sqrt[T]),
		neg:    withOne(gen.Neg[T]),
		fma:    func(a, b, c uint64) uint64 { return uint64(gen.Fma(T(a), T(b), T(c))) },
		cmp:    func(a, b uint64) int { return gen.Cmp(T(a), T(b)) },
		horner: func(l []uint64, x uint64) uint64 { return uint64(gen.Horner(listOf[T](l), T(x))) },
		to:     waysFrom[T](),
	}
}

// withOne is a call of one pattern, told as words.
func withOne[T gen.Pattern](call func(a T) T) func(a uint64) uint64 {
	return func(a uint64) uint64 { return uint64(call(T(a))) }
}

// withTwo is a call of two patterns, told as words.
func withTwo[T gen.Pattern](call func(a, b T) T) func(a, b uint64) uint64 {
	return func(a, b uint64) uint64 { return uint64(call(T(a), T(b))) }
}

// listOf is a list of words as one of patterns.
func listOf[T gen.Pattern](l []uint64) []T {
	m := make([]T, len(l))
	for i, p := range l {
		m[i] = T(p)
	}
	return m
}

// waysFrom are those from a type to all types.
func waysFrom[T gen.Pattern]() []way {
	return []way{
		wayTo[gen.P8, T]("P8", 8), wayTo[gen.P16, T]("P16", 16), wayTo[gen.P32, T]("P32", 32), wayTo[gen.P64, T]("P64", 64),
		wayTo[own8, T]("own8", 8), wayTo[own16, T]("own16", 16), wayTo[own32, T]("own32", 32), wayTo[own64, T]("own64", 64),
		wayTo[late8, T]("late8", 8), wayTo[late16, T]("late16", 16), wayTo[late32, T]("late32", 32), wayTo[late64, T]("late64", 64),
		wayTo[uint8, T]("uint8", 8), wayTo[uint16, T]("uint16", 16), wayTo[uint32, T]("uint32", 32), wayTo[uint64, T]("uint64", 64),
	}
}

// wayTo is that from a type to another one.
func wayTo[U, T gen.Pattern](name string, m int) way {
	return way{name: name, m: m, call: func(p uint64) uint64 { return uint64(gen.To[U](T(p))) }}
}
