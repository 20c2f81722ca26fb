package heun

import (
	"astrolabe/api"
	"astrolabe/fixq"
	"astrolabe/vm"
)

// gatherer takes any number of flags, and tells all that it was given so far.
type gatherer func(raised ...int) int

func gathered() gatherer {
	all := 0
	return func(raised ...int) int {
		for _, flags := range raised {
			all |= flags
		}
		return all
	}
}

// joined is what join makes of two lists, number by number. The lists are as long.
func joined(a, b []int64, join func(x, y int64) int64) []int64 {
	l := make([]int64, len(a))
	for i := range l {
		l[i] = join(a[i], b[i])
	}
	return l
}

// slopes makes what asks a machine for the slope at states: all else is the same at each of them.
func slopes(m *vm.Machine, in, mem []int64, gather gatherer) func(state []int64) ([]int64, api.Errno) {
	return func(state []int64) ([]int64, api.Errno) {
		k, flags, refused := m.Deriv(in, state, mem)
		gather(flags)
		return k, refused
	}
}

// along is where states are behind h of a slope.
func along(state, slope []int64, h int64, gather gatherer) []int64 {
	return joined(state, slope, func(s, k int64) int64 {
		way, ofWay := fixq.Mul(h, k)
		end, ofEnd := fixq.Add(s, way)
		gather(ofWay, ofEnd)
		return end
	})
}

// middle is half of the sums of two slopes: a sum that is beyond the ends is held ahead of its half.
func middle(k1, k2 []int64, gather gatherer) []int64 {
	return joined(k1, k2, func(x, y int64) int64 {
		sum, flags := fixq.Add(x, y)
		gather(flags)
		return fixq.Half(sum)
	})
}
