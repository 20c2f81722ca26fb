// Package fixq is layer 1: see shared/doc/01-fixq.md.
package fixq

import (
	"math"
	"math/bits"

	"astrolabe/api"
)

// point is how many bits of a number stand behind its point.
const point = 32

func Add(a, b int64) (int64, int) {
	sum := a + b
	// It has wrapped round just if its sign is neither part's.
	if (a^sum)&(b^sum) < 0 {
		return end(a < 0), api.FlagOver
	}
	return sum, 0
}

func Sub(a, b int64) (int64, int) {
	gap := a - b
	// It has wrapped round just if the signs differ and its own isn't a's.
	if (a^b)&(a^gap) < 0 {
		return end(a < 0), api.FlagOver
	}
	return gap, 0
}

func Neg(a int64) (int64, int) {
	return Sub(0, a)
}

func Mul(a, b int64) (int64, int) {
	return scaled((a < 0) != (b < 0), size(a), size(b), point)
}

func Div(a, b int64) (int64, int) {
	if b == 0 {
		return divByZero(a), api.FlagZero
	}
	below := (a < 0) != (b < 0)
	hi, lo := size(a)>>point, size(a)<<point
	// Div64 panics of a quotient of more than 64 bits; such a one is beyond the ends in any case.
	if hi >= size(b) {
		return end(below), api.FlagOver
	}
	quo, _ := bits.Div64(hi, lo, size(b))
	return held(below, 0, quo)
}

func Sqrt(a int64) (int64, int) {
	if a < 0 {
		return 0, api.FlagZero
	}
	hi, lo := uint64(a)>>point, uint64(a)<<point
	var root uint64
	// What it is the root of is below 2^95, so that 48 bits are enough.
	for bit := uint64(1) << 47; bit != 0; bit >>= 1 {
		h, l := bits.Mul64(root|bit, root|bit)
		if h < hi || h == hi && l <= lo {
			root |= bit
		}
	}
	return int64(root), 0
}

func Abs(a int64) (int64, int) {
	if a < 0 {
		return Neg(a)
	}
	return a, 0
}

func Half(a int64) int64 {
	return a / 2
}

func Lerp(a, b int64, m, k int) (int64, int) {
	flags := 0
	keep := func(q int64, raised ...int) int64 {
		for _, f := range raised {
			flags |= f
		}
		return q
	}
	k = min(max(k, 0), 32)
	// As an int64: an int may have no room for 2^32.
	part := min(max(int64(m), 0), int64(1)<<k)
	gap := keep(Sub(b, a))
	way := keep(scaled(gap < 0, size(gap), uint64(part), k))
	q := keep(Add(a, way))
	return q, flags
}

// divByZero is what stands for the quotient of a and 0.
func divByZero(a int64) int64 {
	if a == 0 {
		return 0
	}
	return end(a < 0)
}

// end is the greatest number, or the least one.
func end(below bool) int64 {
	if below {
		return math.MinInt64
	}
	return math.MaxInt64
}

// size is unsigned, since the least number's has no room in an int64.
func size(a int64) uint64 {
	if a < 0 {
		return -uint64(a)
	}
	return uint64(a)
}

// scaled is x times y by 2^k, held. Sizes are multiplied, not numbers: what is shifted out of a size cuts it nearer to 0.
func scaled(below bool, x, y uint64, k int) (int64, int) {
	hi, lo := bits.Mul64(x, y)
	return held(below, hi>>k, hi<<(64-k)|lo>>k)
}

// held is the number of a sign and of a size of two words.
func held(below bool, hi, lo uint64) (int64, int) {
	room := size(end(below))
	if hi != 0 || lo > room {
		return end(below), api.FlagOver
	}
	if below {
		return int64(-lo), 0
	}
	return int64(lo), 0
}
