package eval

import (
	"astrolabe/api"
	"astrolabe/fixq"
)

// operator is what an operator is of its parts' values, and the flags.
type operator func(parts [3]int64) (int64, int)

// operators are function values by the kinds of expressions. (A map has no place at package level.)
func operators() map[int]operator {
	return map[int]operator{
		api.ExNeg:  ofOne(fixq.Neg),
		api.ExSqrt: ofOne(fixq.Sqrt),
		api.ExAdd:  ofTwo(fixq.Add),
		api.ExSub:  ofTwo(fixq.Sub),
		api.ExMul:  ofTwo(fixq.Mul),
		api.ExDiv:  ofTwo(fixq.Div),
		api.ExNot:  whether(func(a, _ int64) bool { return a != 1 }),
		api.ExLess: whether(func(a, b int64) bool { return a < b }),
		api.ExMost: whether(func(a, b int64) bool { return a <= b }),
		api.ExSame: whether(func(a, b int64) bool { return a == b }),
		api.ExAnd:  whether(func(a, b int64) bool { return a == 1 && b == 1 }),
		api.ExOr:   whether(func(a, b int64) bool { return a == 1 || b == 1 }),
		api.ExIf:   func(l [3]int64) (int64, int) { return pick(l[0], l[1], l[2]), 0 },
	}
}

func ofOne(f func(a int64) (int64, int)) operator {
	return func(l [3]int64) (int64, int) { return f(l[0]) }
}

func ofTwo(f func(a, b int64) (int64, int)) operator {
	return func(l [3]int64) (int64, int) { return f(l[0], l[1]) }
}

func whether(holds func(a, b int64) bool) operator {
	return func(l [3]int64) (int64, int) { return truth(holds(l[0], l[1])), 0 }
}

// pick is b, if a is 1, else c.
func pick(a, b, c int64) int64 {
	if a == 1 {
		return b
	}
	return c
}

// truth is a bool as a number.
func truth(b bool) int64 {
	if b {
		return 1
	}
	return 0
}
