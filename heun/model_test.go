package heun

import (
	"math"
	"math/big"
	"slices"
	"testing"

	"astrolabe/api"
	"astrolabe/check"
	"astrolabe/lower"
	"astrolabe/vm"
)

const (
	one   = api.One
	most  = math.MaxInt64
	least = math.MinInt64
)

// made is a machine of an object.
func made(t *testing.T, o api.Object) *vm.Machine {
	t.Helper()
	m, e := vm.New(o)
	if e != api.OK {
		t.Fatalf("%+v: %v", o, e)
	}
	return m
}

// ofText is a machine of what a right text is lowered to.
func ofText(t *testing.T, text string) *vm.Machine {
	t.Helper()
	p, fault := check.Text(text)
	if fault.Code != api.OK {
		t.Fatalf("%s: %s", text, check.Say(text, fault))
	}
	o, fault := lower.Object(p)
	if fault.Code != api.OK {
		t.Fatalf("%s: %v", text, fault)
	}
	return made(t, o)
}

// answer is what a call tells beside its error.
type answer struct {
	l     []int64
	flags int
}

func (a answer) same(b answer) bool { return a.flags == b.flags && slices.Equal(a.l, b.l) }

// The model: what the chapter says, said again with whole numbers that have no end, one number behind the other.

func whole(q int64) *big.Int { return big.NewInt(q) }

// held is the number that is next to a whole one; that it isn't that itself is flagged.
func (a *answer) held(x *big.Int) int64 {
	if x.IsInt64() {
		return x.Int64()
	}
	a.flags |= api.FlagOver
	if x.Sign() < 0 {
		return least
	}
	return most
}

func (a *answer) add(x, y int64) int64 { return a.held(new(big.Int).Add(whole(x), whole(y))) }

// times is x times y by 2^32, nearer to 0 (Quo cuts so).
func (a *answer) times(x, y int64) int64 {
	q := new(big.Int).Mul(whole(x), whole(y))
	return a.held(q.Quo(q, whole(one)))
}

func (a *answer) slope(t *testing.T, m *vm.Machine, in, state, mem []int64) []int64 {
	t.Helper()
	k, flags, e := m.Deriv(in, state, mem)
	if e != api.OK {
		t.Fatal(e)
	}
	a.flags |= flags
	return k
}

func modelEuler(t *testing.T, m *vm.Machine, in, state, mem []int64, h int64) answer {
	t.Helper()
	var a answer
	for i, k := range a.slope(t, m, in, state, mem) {
		a.l = append(a.l, a.add(state[i], a.times(h, k)))
	}
	return a
}

func modelStep(t *testing.T, m *vm.Machine, in, state, mem []int64, h int64) answer {
	t.Helper()
	ahead := modelEuler(t, m, in, state, mem, h)
	a := answer{flags: ahead.flags}
	k1, k2 := a.slope(t, m, in, state, mem), a.slope(t, m, in, ahead.l, mem)
	for i, s := range state {
		half := new(big.Int).Quo(whole(a.add(k1[i], k2[i])), whole(2)).Int64()
		a.l = append(a.l, a.add(s, a.times(h, half)))
	}
	return a
}

func modelBetween(a, b []int64, part, k int) answer {
	k = max(0, min(k, 32))
	part = max(0, min(part, 1<<k))
	var told answer
	for i := range a {
		gap := whole(told.held(new(big.Int).Sub(whole(b[i]), whole(a[i]))))
		way := gap.Mul(gap, whole(int64(part)))
		told.l = append(told.l, told.held(new(big.Int).Add(whole(a[i]), way.Quo(way, whole(1<<k)))))
	}
	return told
}

// checkStep holds both a step and the states ahead against the model, and tells the step's flags.
func checkStep(t *testing.T, m *vm.Machine, in, state, mem []int64, h int64) int {
	t.Helper()
	other, long := made(t, m.Object()), int64(len(m.Object().Deriv))
	for _, c := range []struct {
		do    func(*vm.Machine, []int64, []int64, []int64, int64) ([]int64, int, api.Errno)
		want  answer
		slope int64
	}{
		{Euler, modelEuler(t, other, in, state, mem, h), 1},
		{Step, modelStep(t, other, in, state, mem, h), 2},
	} {
		had := m.Done()
		l, flags, e := c.do(m, in, state, mem, h)
		if !c.want.same(answer{l, flags}) || e != api.OK {
			t.Fatalf("%v %v %v, h %d: %v %d %v, wanted %v", in, state, mem, h, l, flags, e, c.want)
		}
		if n := m.Done() - had; n != c.slope*long {
			t.Fatalf("%d done of %d slopes of %d", n, c.slope, long)
		}
	}
	return modelStep(t, other, in, state, mem, h).flags
}

// drawer draws objects and what they are done over: the same ones each time.
type drawer struct{ state uint64 }

func (d *drawer) below(n int) int {
	d.state = d.state*6364136223846793005 + 1442695040888963407
	return int(d.state>>33) % n
}

// number draws one of each scale, and, now and then, one at an end or near to one.
func (d *drawer) number() int64 {
	l := [...]int64{0, 1, -1, one, -one, 3 * one / 2, most, least, most - 1, least + 1}
	if d.below(4) == 0 {
		return l[d.below(len(l))]
	}
	v := int64(1)<<d.below(62) + int64(d.below(1<<30))
	if d.below(2) == 0 {
		return -v
	}
	return v
}

func (d *drawer) numbers(n int) []int64 {
	l := make([]int64, n)
	for i := range l {
		l[i] = d.number()
	}
	return l
}

// object draws one with few in its lists; each state's slope is made of whatever stands in few registers then.
func (d *drawer) object() api.Object {
	o := api.Object{In: slices.Repeat([]int{api.TypeFix}, 1+d.below(2)), State: make([]int64, 1+d.below(4)), Mem: make([]int64, 1+d.below(2))}
	for i := range o.State {
		for range 1 + d.below(5) {
			o.Deriv = append(o.Deriv, d.ins(o))
		}
		o.Deriv = append(o.Deriv, api.Ins{Op: api.InPut, D: i, A: d.below(4)})
	}
	return o
}

func (d *drawer) ins(o api.Object) api.Ins {
	x := api.Ins{D: d.below(4)}
	switch d.below(8) {
	case 0:
		x.Op, x.V = api.InConst, d.number()
	case 1:
		x.Op, x.A = api.InIn, d.below(len(o.In))
	case 2, 3:
		x.Op, x.A = api.InState, d.below(len(o.State))
	case 4:
		x.Op, x.A = api.InMem, d.below(len(o.Mem))
	case 5:
		x.Op, x.A = []int{api.InNeg, api.InSqrt}[d.below(2)], d.below(4)
	default:
		x.Op, x.A, x.B = api.InAdd+d.below(5), d.below(4), d.below(4)
	}
	return x
}
