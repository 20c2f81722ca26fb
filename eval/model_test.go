package eval

import (
	"slices"

	"astrolabe/api"
	"astrolabe/ast"
	"astrolabe/fixq"
	"astrolabe/names"
)

// Two models. The first one writes an expression as a row of steps, each of which makes a register from those ahead of it, and reads what cells there are, and in which order, from how they were written. The second one knows of no cells: it tells what an expression is at a step of its own from what its parts are, and were.

// row is an expression written as steps.
type row struct {
	p     api.Program
	at    api.Point
	steps []func(r, cells []int64) (int64, int)
	first []int64
	next  []func() int // those write what a cell's next is, and tell its register
}

// place is where a row's expressions stand: a declaration, the registers of its parameters (none of the hybrid), those of its lets that are written.
type place struct {
	d          int
	args, lets map[string]int
}

// write is a row for the hybrid's expression e, and the registers of it, and of the cells' next.
func write(p api.Program, e int) (*row, int, []int) {
	d, _ := hybridOf(p)
	m := &row{p: p}
	own := m.expr(place{d, nil, map[string]int{}}, e)
	var stored []int
	for len(stored) < len(m.next) {
		stored = append(stored, m.next[len(stored)]())
	}
	return m, own, stored
}

// run does a row's steps: it tells a register, what the cells are next, and the flags.
func (m *row) run(at api.Point, cells []int64, own int, stored []int) (int64, []int64, int) {
	m.at = at
	all, r := 0, []int64(nil)
	for _, step := range m.steps {
		v, flags := step(r, cells)
		r, all = append(r, v), all|flags
	}
	var next []int64
	for _, s := range stored {
		next = append(next, r[s])
	}
	return r[own], next, all
}

func (m *row) put(step func(r, cells []int64) (int64, int)) int {
	m.steps = append(m.steps, step)
	return len(m.steps) - 1
}

// quiet puts a step without flags.
func (m *row) quiet(step func(r, cells []int64) int64) int {
	return m.put(func(r, cells []int64) (int64, int) { return step(r, cells), 0 })
}

func (m *row) constant(q int64) int {
	return m.quiet(func(r, cells []int64) int64 { return q })
}

// cell writes that one is read.
func (m *row) cell(first int64, next func() int) int {
	m.first, m.next = append(m.first, first), append(m.next, next)
	which := len(m.first) - 1
	return m.quiet(func(r, cells []int64) int64 { return cells[which] })
}

func (m *row) pick(a, b, c int) int {
	return m.quiet(func(r, cells []int64) int64 {
		if r[a] == 1 {
			return r[b]
		}
		return r[c]
	})
}

func (m *row) expr(s place, e int) int {
	x := m.p.Exprs[e]
	zero := func() int { return m.constant(0) }
	then := func(e int) func() int { return func() int { return m.expr(s, e) } }
	switch x.Kind {
	case api.ExFix, api.ExBool:
		return m.constant(x.V)
	case api.ExName:
		return m.name(s, x.Name)
	case api.ExIs:
		which, it := modelOf(m.p, s.d, api.ItMode, x.Name)
		state := slices.Index(it.States, x.State)
		return m.quiet(func(r, cells []int64) int64 { return modelTruth(m.at.Mode[which] == int64(state)) })
	case api.ExPre:
		return m.cell(0, then(x.A))
	case api.ExArrow:
		first := m.cell(1, zero)
		a := m.expr(s, x.A)
		return m.pick(first, a, m.expr(s, x.B))
	case api.ExFby:
		first := m.cell(1, zero)
		was := m.cell(0, then(x.B))
		return m.pick(first, m.expr(s, x.A), was)
	case api.ExCall:
		d := names.Decl(m.p, x.Name)
		inner := place{d, map[string]int{}, map[string]int{}}
		for i, arg := range x.Args {
			inner.args[m.p.Decls[d].Params[i].Name] = m.expr(s, arg)
		}
		return m.expr(inner, m.p.Decls[d].E)
	}
	var parts []int
	for _, part := range ast.Parts(x) {
		parts = append(parts, m.expr(s, part))
	}
	return m.put(func(r, cells []int64) (int64, int) {
		var l []int64
		for _, part := range parts {
			l = append(l, r[part])
		}
		return modelOperator(x.Kind, l)
	})
}

func (m *row) name(s place, name string) int {
	v, _ := names.Find(m.p, s.d, name)
	which, it := modelOf(m.p, s.d, map[int]int{api.VarLet: api.ItLet, api.VarDer: api.ItDer, api.VarMem: api.ItMem}[v.Sort], name)
	switch {
	case v.Sort == api.VarLet:
		if r, ok := s.lets[name]; ok {
			return r
		}
		r := m.expr(s, it.E)
		s.lets[name] = r
		return r
	case v.Sort == api.VarParam && s.args != nil:
		return s.args[name]
	case v.Sort == api.VarParam:
		return m.quiet(func(r, cells []int64) int64 { return m.at.In[v.Index] })
	case s.args != nil: // a der or a mem that is none of the point's
		return m.constant(0)
	case v.Sort == api.VarDer:
		return m.quiet(func(r, cells []int64) int64 { return m.at.State[which] })
	}
	return m.quiet(func(r, cells []int64) int64 { return m.at.Mem[which] })
}

// modelOf is which item of a kind has a name, from 0 on, and it.
func modelOf(p api.Program, d, kind int, name string) (int, api.Item) {
	which := 0
	for _, it := range p.Decls[d].Items {
		if it.Kind == kind && it.Name == name {
			return which, it
		}
		if it.Kind == kind {
			which++
		}
	}
	return -1, api.Item{}
}

func modelTruth(b bool) int64 {
	if b {
		return 1
	}
	return 0
}

func modelOperator(kind int, l []int64) (int64, int) {
	switch kind {
	case api.ExNeg:
		return fixq.Neg(l[0])
	case api.ExSqrt:
		return fixq.Sqrt(l[0])
	case api.ExAdd:
		return fixq.Add(l[0], l[1])
	case api.ExSub:
		return fixq.Sub(l[0], l[1])
	case api.ExMul:
		return fixq.Mul(l[0], l[1])
	case api.ExDiv:
		return fixq.Div(l[0], l[1])
	case api.ExNot:
		return modelTruth(l[0] != 1), 0
	case api.ExLess:
		return modelTruth(l[0] < l[1]), 0
	case api.ExMost:
		return modelTruth(l[0] <= l[1]), 0
	case api.ExSame:
		return modelTruth(l[0] == l[1]), 0
	case api.ExAnd:
		return modelTruth(l[0] == 1 && l[1] == 1), 0
	case api.ExOr:
		return modelTruth(l[0] == 1 || l[1] == 1), 0
	}
	if l[0] == 1 { // an if
		return l[1], 0
	}
	return l[2], 0
}

// streams tell what expressions are at each step of their own: at the points, one behind the other.
type streams struct {
	p      api.Program
	points []api.Point
	known  map[when]int64
}

// where is a declaration that is asked, by a call that stands in one, too (nil, if it is the hybrid).
type where struct {
	d      int
	from   *where
	call   api.Expr
	inside map[int]*where // of its own calls, by their numbers
}

type when struct {
	in      *where
	e, step int
}

func (s *streams) of(in *where, e, step int) int64 {
	key := when{in, e, step}
	v, ok := s.known[key]
	if !ok {
		v = s.told(in, e, step)
		s.known[key] = v
	}
	return v
}

func (s *streams) told(in *where, e, step int) int64 {
	x := s.p.Exprs[e]
	switch x.Kind {
	case api.ExFix, api.ExBool:
		return x.V
	case api.ExName:
		return s.name(in, x.Name, step)
	case api.ExIs:
		which, it := modelOf(s.p, in.d, api.ItMode, x.Name)
		return modelTruth(it.States[s.points[step].Mode[which]] == x.State)
	case api.ExPre:
		if step == 0 {
			return 0
		}
		return s.of(in, x.A, step-1)
	case api.ExArrow, api.ExFby:
		switch {
		case step == 0:
			return s.of(in, x.A, 0)
		case x.Kind == api.ExFby:
			return s.of(in, x.B, step-1)
		}
		return s.of(in, x.B, step)
	case api.ExCall:
		inner := s.called(in, e)
		return s.of(inner, s.p.Decls[inner.d].E, step)
	}
	v, _ := s.operated(in, e, step)
	return v
}

func (s *streams) operated(in *where, e, step int) (int64, int) {
	var l []int64
	for _, part := range ast.Parts(s.p.Exprs[e]) {
		l = append(l, s.of(in, part, step))
	}
	return modelOperator(s.p.Exprs[e].Kind, l)
}

func (s *streams) called(in *where, e int) *where {
	if in.inside[e] == nil {
		x := s.p.Exprs[e]
		in.inside[e] = &where{names.Decl(s.p, x.Name), in, x, map[int]*where{}}
	}
	return in.inside[e]
}

func (s *streams) name(in *where, name string, step int) int64 {
	v, _ := names.Find(s.p, in.d, name)
	at := s.points[step]
	switch v.Sort {
	case api.VarLet:
		return s.of(in, s.p.Decls[in.d].Items[v.Index].E, step)
	case api.VarDer:
		which, _ := modelOf(s.p, in.d, api.ItDer, name)
		return at.State[which]
	case api.VarMem:
		which, _ := modelOf(s.p, in.d, api.ItMem, name)
		return at.Mem[which]
	}
	if in.from == nil {
		return at.In[v.Index]
	}
	return s.of(in.from, in.call.Args[v.Index], step)
}

// flags are those of all that an expression leads to, at a step: each of it is evaluated then.
func (s *streams) flags(in *where, e, step int, met map[when]struct{}) int {
	key := when{in, e, step}
	if _, ok := met[key]; ok {
		return 0
	}
	met[key] = struct{}{}
	x := s.p.Exprs[e]
	flags := 0
	for _, part := range ast.Parts(x) {
		flags |= s.flags(in, part, step, met)
	}
	switch x.Kind {
	case api.ExName:
		if v, _ := names.Find(s.p, in.d, x.Name); v.Sort == api.VarLet {
			flags |= s.flags(in, s.p.Decls[in.d].Items[v.Index].E, step, met)
		}
	case api.ExCall:
		inner := s.called(in, e)
		flags |= s.flags(inner, s.p.Decls[inner.d].E, step, met)
	case api.ExFix, api.ExBool, api.ExIs, api.ExPre, api.ExArrow, api.ExFby:
	default:
		_, own := s.operated(in, e, step)
		flags |= own
	}
	return flags
}
