package heun

import (
	"math"
	"slices"
	"testing"
)

func TestBetween(t *testing.T) { // P19.3
	for _, c := range []struct {
		a, b    []int64
		part, k int
		want    answer
	}{
		{[]int64{0, 8}, []int64{4, 0}, 1, 2, answer{[]int64{1, 6}, 0}},
		{[]int64{0, 8}, []int64{4, 0}, 0, 2, answer{[]int64{0, 8}, 0}},
		{[]int64{0, 8}, []int64{4, 0}, 4, 2, answer{[]int64{4, 0}, 0}},
		{[]int64{3, -3}, []int64{-3, 3}, 1, 1, answer{[]int64{0, 0}, 0}},
		// Nearer to 0, the way itself.
		{[]int64{0, 0, 10, 10}, []int64{3, -3, 13, 7}, 1, 1, answer{[]int64{1, -1, 11, 9}, 0}},
		// Parts and halvings beyond their ends are held.
		{[]int64{1, 2}, []int64{5, 6}, -1, 2, answer{[]int64{1, 2}, 0}},
		{[]int64{1, 2}, []int64{5, 6}, 5, 2, answer{[]int64{5, 6}, 0}},
		{[]int64{1, 2}, []int64{5, 6}, math.MaxInt, 2, answer{[]int64{5, 6}, 0}},
		{[]int64{1, 2}, []int64{5, 6}, math.MinInt, 2, answer{[]int64{1, 2}, 0}},
		{[]int64{1, 2}, []int64{5, 6}, 1, 0, answer{[]int64{5, 6}, 0}},
		{[]int64{1, 2}, []int64{5, 6}, 1, -1, answer{[]int64{5, 6}, 0}},
		{[]int64{1, 2}, []int64{5, 6}, 1, math.MinInt, answer{[]int64{5, 6}, 0}},
		{[]int64{0, one}, []int64{1 << 40, 0}, 1, 32, answer{[]int64{1 << 8, one - 1}, 0}},
		{[]int64{0, one}, []int64{1 << 40, 0}, 1, 33, answer{[]int64{1 << 8, one - 1}, 0}},
		{[]int64{0, one}, []int64{1 << 40, 0}, 1, math.MaxInt, answer{[]int64{1 << 8, one - 1}, 0}},
		{[]int64{0, one}, []int64{1 << 40, 0}, 1 << 32, 32, answer{[]int64{1 << 40, 0}, 0}},
		// A difference that is held is flagged, at whichever number it is.
		{[]int64{least, 0}, []int64{most, 4}, 1, 1, answer{[]int64{-(1 << 62) - 1, 2}, 1}},
		{[]int64{0, least}, []int64{4, most}, 1, 1, answer{[]int64{2, -(1 << 62) - 1}, 1}},
		{[]int64{0, most}, []int64{4, least}, 0, 1, answer{[]int64{0, most}, 1}},
		{[]int64{least}, []int64{-1}, 1, 0, answer{[]int64{-1}, 0}},
		{nil, nil, 1, 1, answer{}},
		{[]int64{}, nil, -1, 99, answer{}},
	} {
		if l, flags := Between(c.a, c.b, c.part, c.k); !c.want.same(answer{l, flags}) {
			t.Errorf("%v %v %d %d: %v %d, wanted %v", c.a, c.b, c.part, c.k, l, flags, c.want)
		}
	}
}

// Lists of other lengths have nothing between, and no flags, whatever is in them.
func TestOtherLengths(t *testing.T) { // P19.3
	for a := range 6 {
		for b := range 6 {
			l, flags := Between(slices.Repeat([]int64{least}, a), slices.Repeat([]int64{most}, b), 1, 1)
			if a != b && (len(l) != 0 || flags != 0) || a == b && (len(l) != a || flags != min(a, 1)) {
				t.Error(a, b, l, flags)
			}
		}
	}
	if l, flags := Between(make([]int64, 5000), make([]int64, 4999), 0, 0); len(l) != 0 || flags != 0 {
		t.Error(len(l), flags)
	}
	// More of them than a bank may have are as good as others.
	if l, flags := Between(make([]int64, 5000), slices.Repeat([]int64{8}, 5000), 1, 2); !slices.Equal(l, slices.Repeat([]int64{2}, 5000)) || flags != 0 {
		t.Error(len(l), flags)
	}
}

func TestBetweenDrawn(t *testing.T) { // P19.3
	d := &drawer{state: 3}
	flagged := 0
	for range 20_000 {
		n := d.below(6)
		a, b, k := d.numbers(n), d.numbers(n), d.below(37)-2
		part := d.below(1<<max(0, min(k, 30))+3) - 1
		want := modelBetween(a, b, part, k)
		l, flags := Between(a, b, part, k)
		if !want.same(answer{l, flags}) {
			t.Fatalf("%v %v %d %d: %v %d, wanted %v", a, b, part, k, l, flags, want)
		}
		flagged += flags
	}
	if flagged < 1000 {
		t.Error(flagged)
	}
}
