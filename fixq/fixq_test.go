package fixq

import (
	"math"
	"math/big"
	"testing"

	"astrolabe/api"
)

const (
	one   = api.One
	most  = math.MaxInt64
	least = math.MinInt64
	over  = api.FlagOver
	zero  = api.FlagZero
)

type answer struct {
	q     int64
	flags int
}

func told(q int64, flags int) answer { return answer{q, flags} }

// The model: what the chapter says, said again with whole numbers that have no end.

func whole(q int64) *big.Int { return big.NewInt(q) }

func modelHeld(x *big.Int) answer {
	if x.Cmp(whole(most)) > 0 {
		return answer{most, over}
	}
	if x.Cmp(whole(least)) < 0 {
		return answer{least, over}
	}
	return answer{x.Int64(), 0}
}

// cut is x by y, nearer to 0 (Quo cuts so).
func cut(x, y *big.Int) *big.Int { return new(big.Int).Quo(x, y) }

func modelAdd(a, b int64) answer { return modelHeld(new(big.Int).Add(whole(a), whole(b))) }

func modelSub(a, b int64) answer { return modelHeld(new(big.Int).Sub(whole(a), whole(b))) }

func modelMul(a, b int64) answer {
	return modelHeld(cut(new(big.Int).Mul(whole(a), whole(b)), whole(one)))
}

func modelDiv(a, b int64) answer {
	switch {
	case b != 0:
		return modelHeld(cut(new(big.Int).Mul(whole(a), whole(one)), whole(b)))
	case a > 0:
		return answer{most, zero}
	case a < 0:
		return answer{least, zero}
	}
	return answer{0, zero}
}

func modelLerp(a, b int64, m, k int) answer {
	k = max(0, min(k, 32))
	m = max(0, min(m, 1<<k))
	gap := modelSub(b, a)
	way := cut(new(big.Int).Mul(whole(gap.q), whole(int64(m))), whole(1<<k))
	end := modelHeld(new(big.Int).Add(whole(a), way))
	return answer{end.q, gap.flags | end.flags}
}

// numbers are the ends, what is near to 0, to one, to roots and to halves of words, and some in between, at each scale.
func numbers() []int64 {
	l := []int64{least, least + 1, least + 2, most, most - 1, most - 2, 0, one / 3, one * 5 / 2, 6074000999}
	for _, at := range []int64{1, 1 << 15, 1 << 16, 1 << 31, one, 1 << 33, 1 << 47, 1 << 48, 1 << 62} {
		for _, q := range []int64{at - 1, at, at + 1} {
			l = append(l, q, -q)
		}
	}
	state := uint64(1)
	for i := range 40 {
		state = state*6364136223846793005 + 1442695040888963407
		l = append(l, int64(state)>>(i*3/2))
	}
	return l
}

type two func(a, b int64) (int64, int)

func checkTwo(t *testing.T, name string, f two, a, b int64, want answer) {
	t.Helper()
	if got := told(f(a, b)); got != want {
		t.Errorf("%s(%d, %d): %v, wanted %v", name, a, b, got, want)
	}
}

func TestAddSubNegMul(t *testing.T) { // P1.1
	for _, c := range []struct {
		name string
		f    two
		a, b int64
		want answer
	}{
		{"Add", Add, one, 2 * one, answer{3 * one, 0}},
		{"Add", Add, -one / 2, one / 4, answer{-one / 4, 0}},
		{"Add", Add, most, 0, answer{most, 0}},
		{"Add", Add, most - 1, 1, answer{most, 0}},
		{"Add", Add, most, 1, answer{most, over}},
		{"Add", Add, most, most, answer{most, over}},
		{"Add", Add, least + 1, -1, answer{least, 0}},
		{"Add", Add, least, -1, answer{least, over}},
		{"Add", Add, least, least, answer{least, over}},
		{"Add", Add, least, most, answer{-1, 0}},
		{"Sub", Sub, one, 3 * one, answer{-2 * one, 0}},
		{"Sub", Sub, -1, least, answer{most, 0}},
		{"Sub", Sub, 0, least, answer{most, over}},
		{"Sub", Sub, most, -1, answer{most, over}},
		{"Sub", Sub, -1, most, answer{least, 0}},
		{"Sub", Sub, -2, most, answer{least, over}},
		{"Sub", Sub, least, least, answer{0, 0}},
		{"Mul", Mul, 3 * one / 2, -5 * one / 2, answer{-15 * one / 4, 0}},
		{"Mul", Mul, -3 * one, -2 * one, answer{6 * one, 0}},
		{"Mul", Mul, 3, one / 2, answer{1, 0}},
		{"Mul", Mul, -3, one / 2, answer{-1, 0}},
		{"Mul", Mul, -1, 1, answer{0, 0}},
		{"Mul", Mul, most, one, answer{most, 0}},
		{"Mul", Mul, least, one, answer{least, 0}},
		{"Mul", Mul, least, -one, answer{most, over}},
		{"Mul", Mul, 1 << 48, 1 << 47, answer{most, over}},
		{"Mul", Mul, 1 << 48, -1 << 47, answer{least, 0}},
		{"Mul", Mul, least, least, answer{most, over}},
		{"Mul", Mul, least, most, answer{least, over}},
	} {
		checkTwo(t, c.name, c.f, c.a, c.b, c.want)
	}
	for a, want := range map[int64]answer{0: {0, 0}, one: {-one, 0}, -5: {5, 0}, most: {least + 1, 0}, least + 1: {most, 0}, least: {most, over}} {
		if got := told(Neg(a)); got != want {
			t.Errorf("Neg(%d): %v, wanted %v", a, got, want)
		}
	}
}

// The cut comes ahead of the ends: what is beyond an end by less than 2^-32 is that end, without a flag.
func TestCutAheadOfEnds(t *testing.T) { // P1.1
	const (
		a, b = 15900131892420577, 2491430984671            // their product is 2^95 - 1
		c, d = 3011347479614249131, 3 * 11 * 2281 * 174763 // 2^95 + 1
		e, f = 1 << 32, 1<<63 - 1                          // 2^95 - 2^32
		g, h = 27 * 19 * 43 * 5419 << 32, 77158673929      // 2^95 + 2^32
	)
	checkTwo(t, "Mul", Mul, a, b, answer{most, 0})
	checkTwo(t, "Mul", Mul, a, -b, answer{-most, 0})
	checkTwo(t, "Mul", Mul, c, d, answer{most, over})
	checkTwo(t, "Mul", Mul, -c, d, answer{least, 0})
	checkTwo(t, "Mul", Mul, e, f, answer{most, 0})
	checkTwo(t, "Mul", Mul, g, -h, answer{least, over})
}

func TestDiv(t *testing.T) { // P1.2
	for _, c := range []struct {
		a, b int64
		want answer
	}{
		{one, 3 * one, answer{one / 3, 0}},
		{-one, 3 * one, answer{-(one / 3), 0}},
		{one, -3 * one, answer{-(one / 3), 0}},
		{-6 * one, -4 * one, answer{3 * one / 2, 0}},
		{1, 2 * one, answer{0, 0}},
		{-1, 2 * one, answer{0, 0}},
		{most, one, answer{most, 0}},
		{least, one, answer{least, 0}},
		{least, -one, answer{most, over}},
		{most, -one, answer{-most, 0}},
		{1<<31 - 1, 1, answer{(1<<31 - 1) << 32, 0}},
		{1 << 31, 1, answer{most, over}},
		{-1 << 31, 1, answer{least, 0}},
		{-1<<31 - 1, 1, answer{least, over}},
		{1 << 32, 1, answer{most, over}}, // a quotient of 65 bits
		{most, 1, answer{most, over}},
		{least, 1, answer{least, over}},
		{most, -1, answer{least, over}},
		{least, -1, answer{most, over}},
		{most, least, answer{-(one - 1), 0}},
		{least, least, answer{one, 0}},
		{1, 0, answer{most, zero}},
		{most, 0, answer{most, zero}},
		{-1, 0, answer{least, zero}},
		{least, 0, answer{least, zero}},
		{0, 0, answer{0, zero}},
		{0, -5, answer{0, 0}},
	} {
		checkTwo(t, "Div", Div, c.a, c.b, c.want)
	}
}

func TestSqrt(t *testing.T) { // P1.2
	for a, want := range map[int64]answer{
		0:         {0, 0},
		1:         {1 << 16, 0},
		2:         {92681, 0},
		one / 4:   {one / 2, 0},
		one - 1:   {one - 1, 0},
		one:       {one, 0},
		2 * one:   {6074000999, 0},
		4 * one:   {2 * one, 0},
		1 << 62:   {1 << 47, 0},
		1<<62 - 1: {1<<47 - 1, 0},
		most:      {199032864766430, 0},
		-1:        {0, zero},
		-one:      {0, zero},
		least:     {0, zero},
	} {
		if got := told(Sqrt(a)); got != want {
			t.Errorf("Sqrt(%d): %v, wanted %v", a, got, want)
		}
	}
	for _, a := range numbers() {
		if a < 0 {
			continue
		}
		root := new(big.Int).Sqrt(new(big.Int).Mul(whole(a), whole(one)))
		if got := told(Sqrt(a)); got != (answer{root.Int64(), 0}) {
			t.Errorf("Sqrt(%d): %v, wanted %v", a, got, root)
		}
	}
}

func TestAbsHalf(t *testing.T) { // P1.3
	for a, want := range map[int64]answer{0: {0, 0}, 5: {5, 0}, -5: {5, 0}, most: {most, 0}, least + 1: {most, 0}, least: {most, over}} {
		if got := told(Abs(a)); got != want {
			t.Errorf("Abs(%d): %v, wanted %v", a, got, want)
		}
	}
	for a, want := range map[int64]int64{0: 0, 1: 0, -1: 0, 2: 1, -2: -1, 5: 2, -5: -2, one: one / 2, most: 1<<62 - 1, least: -1 << 62, least + 1: -(1<<62 - 1)} {
		if got := Half(a); got != want {
			t.Errorf("Half(%d): %d, wanted %d", a, got, want)
		}
	}
}

func TestLerp(t *testing.T) { // P1.3
	for _, c := range []struct {
		a, b int64
		m, k int
		want answer
	}{
		{0, 16, 3, 2, answer{12, 0}},
		{16, 0, 1, 2, answer{12, 0}},
		{5, 9, 0, 4, answer{5, 0}},
		{5, 9, 16, 4, answer{9, 0}},
		{0, 3, 1, 1, answer{1, 0}},
		{0, -3, 1, 1, answer{-1, 0}}, // what is cut is the way, nearer to 0
		{10, 7, 1, 1, answer{9, 0}},
		{-10, -7, 1, 1, answer{-9, 0}},
		{most, most, 1, 1, answer{most, 0}},
		{5, 9, -1, 4, answer{5, 0}}, // m is held to 0 and 2^k
		{5, 9, math.MinInt, 4, answer{5, 0}},
		{5, 9, 17, 4, answer{9, 0}},
		{5, 9, math.MaxInt, 4, answer{9, 0}},
		{5, 9, math.MaxInt, 32, answer{9, 0}},
		{5, 9, 1 << 31, 32, answer{7, 0}},
		{5, 9, 0, 0, answer{5, 0}},
		{5, 9, 1, 0, answer{9, 0}},
		{5, 9, 7, 0, answer{9, 0}},
		{5, 9, 0, -3, answer{5, 0}}, // k is held to 0 and 32
		{5, 9, 1, -3, answer{9, 0}},
		{5, 9, 1, math.MinInt, answer{9, 0}},
		{5, 9, 1 << 31, 33, answer{7, 0}},
		{5, 9, 1 << 31, 64, answer{7, 0}},
		{5, 9, 1 << 31, math.MaxInt, answer{7, 0}},
		{0, most, 1, 32, answer{1<<31 - 1, 0}}, // the product has more than 64 bits
		{0, least, 3, 2, answer{least / 4 * 3, 0}},
		{0, least, 1 << 32, 32, answer{least, 0}},
		{least, most, 1, 1, answer{least + most/2, over}}, // the difference is held first
		{least, most, 1 << 32, 32, answer{-1, over}},
		{most, least, 1, 0, answer{-1, over}},
		{most, least, 0, 0, answer{most, over}},
	} {
		if got := told(Lerp(c.a, c.b, c.m, c.k)); got != c.want {
			t.Errorf("Lerp(%d, %d, %d, %d): %v, wanted %v", c.a, c.b, c.m, c.k, got, c.want)
		}
	}
}

func TestLerpModel(t *testing.T) { // P1.3
	for _, a := range numbers() {
		for _, b := range numbers() {
			for _, k := range []int{-1, 0, 1, 5, 31, 32, 33} {
				for _, m := range []int{-1, 0, 1, 2, 21, 1 << 31, 1<<32 - 1, 1 << 32, 1<<32 + 1} {
					want := modelLerp(a, b, m, k)
					if got := told(Lerp(a, b, m, k)); got != want {
						t.Fatalf("Lerp(%d, %d, %d, %d): %v, wanted %v", a, b, m, k, got, want)
					}
				}
			}
		}
	}
}

func TestModel(t *testing.T) { // P1.1, P1.2, P1.3
	for _, a := range numbers() {
		for _, b := range numbers() {
			checkTwo(t, "Add", Add, a, b, modelAdd(a, b))
			checkTwo(t, "Sub", Sub, a, b, modelSub(a, b))
			checkTwo(t, "Mul", Mul, a, b, modelMul(a, b))
			checkTwo(t, "Div", Div, a, b, modelDiv(a, b))
		}
		if got := told(Neg(a)); got != modelSub(0, a) {
			t.Errorf("Neg(%d): %v", a, got)
		}
		if got := told(Abs(a)); got != modelHeld(new(big.Int).Abs(whole(a))) {
			t.Errorf("Abs(%d): %v", a, got)
		}
		if got := Half(a); got != cut(whole(a), whole(2)).Int64() {
			t.Errorf("Half(%d): %d", a, got)
		}
	}
}

func TestWhatFollows(t *testing.T) { // P1.4
	for _, a := range numbers() {
		for _, b := range numbers() {
			checkTwo(t, "Add turned", Add, b, a, told(Add(a, b)))
			checkTwo(t, "Mul turned", Mul, b, a, told(Mul(a, b)))
			sum, held := Add(a, b)
			back, heldBack := Sub(sum, b)
			if held == 0 && heldBack == 0 && back != a {
				t.Errorf("Sub(Add(%d, %d), %[2]d): %d", a, b, back)
			}
		}
	}
}
