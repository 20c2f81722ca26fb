package vm

import (
	"math"
	"slices"
	"testing"

	"astrolabe/api"
	"astrolabe/fixq"
)

const (
	one   = api.One
	most  = math.MaxInt64
	least = math.MinInt64
)

// over is what a piece is done over.
type over struct {
	in, state, mem []int64
	raised         []bool
}

// outcome is what there is behind a piece.
type outcome struct {
	put, state, mem map[int]int64
	flags           int
	done            int64
}

// listed are the numbers of so many places; those that aren't there are as they were at first.
func listed(told map[int]int64, n int, first []int64) []int64 {
	l := make([]int64, n)
	copy(l, first)
	for place, v := range told {
		l[place] = v
	}
	return l
}

// model does a piece by the chapter's sentences: registers stand in a map, as do places that are told.
func model(l []api.Ins, at over) outcome {
	end := outcome{map[int]int64{}, map[int]int64{}, map[int]int64{}, 0, 0}
	registers := map[int]int64{}
	for next := 0; next < len(l); next++ {
		x := l[next]
		end.done++
		switch x.Op {
		case api.InSkip:
			if registers[x.A] == 0 {
				next += x.B
			}
		case api.InPut:
			end.put[x.D] = registers[x.A]
		case api.InStore:
			end.mem[x.D] = registers[x.A]
		case api.InSet:
			end.state[x.D] = registers[x.A]
		default:
			v, flags := modelMakes(x, registers, at)
			registers[x.D] = v
			end.flags |= flags
		}
	}
	return end
}

func modelMakes(x api.Ins, registers map[int]int64, at over) (int64, int) {
	a, b, c := registers[x.A], registers[x.B], registers[x.C]
	is := map[int]bool{
		api.InNot: a != 1, api.InLess: a < b, api.InMost: !(b < a), api.InSame: a == b,
		api.InAnd: a == 1 && b == 1, api.InOr: a == 1 || b == 1,
	}
	switch x.Op {
	case api.InConst:
		return x.V, 0
	case api.InIn:
		return at.in[x.A], 0
	case api.InState:
		return at.state[x.A], 0
	case api.InMem:
		return at.mem[x.A], 0
	case api.InCross:
		is[x.Op] = at.raised[x.A]
	case api.InNeg:
		return fixq.Neg(a)
	case api.InSqrt:
		return fixq.Sqrt(a)
	case api.InAdd:
		return fixq.Add(a, b)
	case api.InSub:
		return fixq.Sub(a, b)
	case api.InMul:
		return fixq.Mul(a, b)
	case api.InDiv:
		return fixq.Div(a, b)
	case api.InPick:
		if a == 1 {
			return b, 0
		}
		return c, 0
	}
	if is[x.Op] {
		return 1, 0
	}
	return 0, 0
}

// drawer draws objects and what they are done over: the same ones each time.
type drawer struct{ state uint64 }

func (d *drawer) below(n int) int {
	d.state = d.state*6364136223846793005 + 1442695040888963407
	return int(d.state>>33) % n
}

func (d *drawer) number() int64 {
	l := [...]int64{0, 0, 1, 1, 2, -1, one, -one, 2 * one, 3 * one / 2, most, least, most - 1, one << 20, -one << 20, int64(d.below(1 << 30)), -int64(d.below(1<<30)) << 20}
	return l[d.below(len(l))]
}

func (d *drawer) numbers(n int) []int64 {
	l := make([]int64, n)
	for i := range l {
		l[i] = d.number()
	}
	return l
}

// register draws one of few, and, now and then, one far off.
func (d *drawer) register() int {
	if d.below(12) == 0 {
		return []int{3999, 3998, 17, 400}[d.below(4)]
	}
	return d.below(5)
}

// ins draws an instruction that is right, where so many stand behind it.
func (d *drawer) ins(o api.Object, piece, behind int) api.Ins {
	stepOnly := []int{api.InCross, api.InSkip, api.InStore, api.InSet}
	made := []int{len(o.State), o.Cross, 0, len(o.Out)}[piece]
	for {
		x := api.Ins{Op: 1 + d.below(22)}
		if d.below(3) == 0 {
			x.Op = []int{api.InPut, api.InConst, api.InState, api.InCross, api.InStore, api.InSet}[d.below(6)]
		}
		if slices.Contains(stepOnly, x.Op) != (piece == 2) && (slices.Contains(stepOnly, x.Op) || x.Op == api.InPut) {
			continue
		}
		x.A = d.register()
		if x.Op <= api.InPick {
			x.D = d.register()
		}
		if x.Op >= api.InAdd && x.Op <= api.InPick {
			x.B = d.register()
		}
		room, place := 1, new(int)
		switch x.Op {
		case api.InConst:
			x.A, x.V = 0, d.number()
		case api.InIn:
			room, place = len(o.In), &x.A
		case api.InState:
			room, place = len(o.State), &x.A
		case api.InMem:
			room, place = len(o.Mem), &x.A
		case api.InCross:
			room, place = o.Cross, &x.A
		case api.InPick:
			x.C = d.register()
		case api.InSkip:
			room, place = behind+1, &x.B
		case api.InPut:
			room, place = made, &x.D
		case api.InStore:
			room, place = len(o.Mem), &x.D
		case api.InSet:
			room, place = len(o.State), &x.D
		}
		if room > 0 {
			*place = d.below(room)
			return x
		}
	}
}

// object draws one that may be, with few in its lists.
func (d *drawer) object(long int) api.Object {
	types := func() []int {
		l := make([]int, d.below(4))
		for i := range l {
			l[i] = 1 + d.below(2)
		}
		return l
	}
	o := api.Object{In: types(), Out: types(), State: d.numbers(d.below(4)), Mem: d.numbers(d.below(4)), Cross: d.below(4), Flags: d.below(4)}
	for piece, l := range []*[]api.Ins{&o.Deriv, &o.Zero, &o.Step, &o.At} {
		n := d.below(long)
		for i := range n {
			*l = append(*l, d.ins(o, piece, n-1-i))
		}
	}
	return o
}

// over draws what an object's pieces may be done over.
func (d *drawer) over(o api.Object) over {
	at := over{d.numbers(len(o.In)), d.numbers(len(o.State)), d.numbers(len(o.Mem)), make([]bool, o.Cross)}
	for i := range at.raised {
		at.raised[i] = d.below(2) == 0
	}
	return at
}

// made tells a machine: an object that may be has one.
func made(t *testing.T, o api.Object) *Machine {
	t.Helper()
	m, e := New(o)
	if m == nil || e != api.OK {
		t.Fatalf("%+v: %v", o, e)
	}
	return m
}

// smooth is a machine's call that does a piece other than Step.
type smooth func(in, state, mem []int64) ([]int64, int, api.Errno)

// checkPiece holds a piece other than Step, with so many places, against the model; it tells how many of its instructions were done.
func checkPiece(t *testing.T, m *Machine, do smooth, l []api.Ins, places int, at over) int64 {
	t.Helper()
	want, had := model(l, at), m.Done()
	v, flags, e := do(at.in, at.state, at.mem)
	if e != api.OK || flags != want.flags || !slices.Equal(v, listed(want.put, places, nil)) {
		t.Fatalf("%+v over %+v: %v %d %v, wanted %+v", l, at, v, flags, e, want)
	}
	if n := m.Done() - had; n != want.done {
		t.Fatalf("%+v: %d done, wanted %d", l, n, want.done)
	}
	return want.done
}

func checkStep(t *testing.T, m *Machine, o api.Object, at over) int64 {
	t.Helper()
	want, had := model(o.Step, at), m.Done()
	state, mem, flags, e := m.Step(at.in, at.state, at.mem, at.raised)
	if e != api.OK || flags != want.flags || !slices.Equal(state, listed(want.state, len(o.State), at.state)) || !slices.Equal(mem, listed(want.mem, len(o.Mem), at.mem)) {
		t.Fatalf("%+v over %+v: %v %v %d %v, wanted %+v", o.Step, at, state, mem, flags, e, want)
	}
	if n := m.Done() - had; n != want.done {
		t.Fatalf("%+v: %d done, wanted %d", o.Step, n, want.done)
	}
	return want.done
}

// checkAll holds all pieces against the model.
func checkAll(t *testing.T, m *Machine, o api.Object, at over) {
	t.Helper()
	n := checkPiece(t, m, m.Deriv, o.Deriv, len(o.State), at) + checkPiece(t, m, m.Zero, o.Zero, o.Cross, at) + checkStep(t, m, o, at) + checkPiece(t, m, m.At, o.At, len(o.Out), at)
	if n > int64(len(o.Deriv)+len(o.Zero)+len(o.Step)+len(o.At)) {
		t.Fatal("done too often:", n)
	}
}
