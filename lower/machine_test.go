package lower

import (
	"slices"
	"testing"

	"astrolabe/api"
	"astrolabe/eval"
	"astrolabe/fixq"
)

// machine does a piece's instructions.
type machine struct {
	in, state, mem    []int64
	raised            []bool
	puts              []int64
	nextState, stored []int64
	flags             int
}

// run does a piece; puts is how many places it has.
func run(l []api.Ins, at banks, raised []bool, puts int) *machine {
	m := &machine{at.in, at.state, at.mem, raised, make([]int64, puts), slices.Clone(at.state), slices.Clone(at.mem), 0}
	r := make([]int64, len(l))
	for i := 0; i < len(l); i++ {
		in := l[i]
		switch in.Op {
		case api.InSkip:
			if r[in.A] == 0 {
				i += in.B
			}
		case api.InPut:
			m.puts[in.D] = r[in.A]
		case api.InStore:
			m.stored[in.D] = r[in.A]
		case api.InSet:
			m.nextState[in.D] = r[in.A]
		default:
			v, flags := m.make(in, r)
			r[in.D] = v
			m.flags |= flags
		}
	}
	return m
}

func truth(b bool) int64 {
	if b {
		return 1
	}
	return 0
}

func (m *machine) make(in api.Ins, r []int64) (int64, int) {
	switch in.Op {
	case api.InConst:
		return in.V, 0
	case api.InIn:
		return m.in[in.A], 0
	case api.InState:
		return m.state[in.A], 0
	case api.InMem:
		return m.mem[in.A], 0
	case api.InCross:
		return truth(m.raised[in.A]), 0
	case api.InNeg:
		return fixq.Neg(r[in.A])
	case api.InNot:
		return truth(r[in.A] != 1), 0
	case api.InSqrt:
		return fixq.Sqrt(r[in.A])
	case api.InAdd:
		return fixq.Add(r[in.A], r[in.B])
	case api.InSub:
		return fixq.Sub(r[in.A], r[in.B])
	case api.InMul:
		return fixq.Mul(r[in.A], r[in.B])
	case api.InDiv:
		return fixq.Div(r[in.A], r[in.B])
	case api.InLess:
		return truth(r[in.A] < r[in.B]), 0
	case api.InMost:
		return truth(r[in.A] <= r[in.B]), 0
	case api.InSame:
		return truth(r[in.A] == r[in.B]), 0
	case api.InAnd:
		return truth(r[in.A] == 1 && r[in.B] == 1), 0
	case api.InOr:
		return truth(r[in.A] == 1 || r[in.B] == 1), 0
	}
	if r[in.A] == 1 {
		return r[in.B], 0
	}
	return r[in.C], 0
}

// banks are what an object's pieces are done over.
type banks struct{ in, state, mem []int64 }

// program is one without faults that is evaluated as it is.
type program struct {
	p     api.Program
	ready *eval.Ready
	h     *modelScope
}

// point is what banks are for layer 14.
func (q program) point(at banks) api.Point {
	mems, modes := len(q.h.all(api.ItMem)), len(q.h.all(api.ItMode))
	return api.Point{In: at.in, State: at.state, Mem: at.mem[:mems], Mode: at.mem[mems : mems+modes]}
}

// values are those of expressions without cells, and all their flags.
func (q program) values(t *testing.T, at banks, l []int) ([]int64, int) {
	t.Helper()
	var values []int64
	all := 0
	for _, e := range l {
		v, flags, _, ok := q.ready.Value(q.point(at), e, nil)
		if !ok {
			t.Fatal("no value of", e)
		}
		values, all = append(values, v), all|flags
	}
	return values, all
}

// step is what a step is, by what layer 14 says of each expression that it is of: of several crossings that concern one thing the first one holds.
func (q program) step(t *testing.T, at banks, raised []bool) banks {
	t.Helper()
	next := banks{at.in, slices.Clone(at.state), slices.Clone(at.mem)}
	told := map[*int64]struct{}{}
	set := func(place *int64, v int64) {
		if _, ok := told[place]; !ok {
			*place = v
		}
		told[place] = struct{}{}
	}
	modes := len(q.h.all(api.ItMem))
	memory := modes + len(q.h.all(api.ItMode))
	i := 0
	for _, it := range q.p.Decls[q.h.d].Items {
		switch it.Kind {
		case api.ItFrom:
			mode, which := q.h.item(api.ItMode, it.Name)
			if raised[i] && mode.States[at.mem[modes+which]] == it.State {
				set(&next.mem[modes+which], int64(slices.Index(mode.States, it.Next)))
			}
		case api.ItReset, api.ItOn:
			cells := at.mem[memory : memory+len(q.ready.Cells(it.E))]
			v, _, later, ok := q.ready.Value(q.point(at), it.E, cells)
			if !ok {
				t.Fatal("no value of", it)
			}
			if raised[i] {
				copy(next.mem[memory:], later)
				bank, kind := next.mem, api.ItMem
				if it.Kind == api.ItReset {
					bank, kind = next.state, api.ItDer
				}
				_, which := q.h.item(kind, it.Name)
				set(&bank[which], v)
			}
			memory += len(cells)
		default:
			continue
		}
		i++
	}
	return next
}

// stepFlags are those of a step: of all crossings that are raised.
func (q program) stepFlags(at banks, raised []bool) int {
	memory := len(q.h.all(api.ItMem)) + len(q.h.all(api.ItMode))
	i, all := 0, 0
	for _, it := range q.p.Decls[q.h.d].Items {
		switch it.Kind {
		case api.ItReset, api.ItOn:
			cells := at.mem[memory : memory+len(q.ready.Cells(it.E))]
			_, flags, _, _ := q.ready.Value(q.point(at), it.E, cells)
			if raised[i] {
				all |= flags
			}
			memory += len(cells)
			i++
		case api.ItFrom:
			i++
		}
	}
	return all
}
