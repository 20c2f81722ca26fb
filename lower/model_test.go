package lower

import (
	"slices"

	"astrolabe/api"
	"astrolabe/ast"
	"astrolabe/eval"
	"astrolabe/names"
)

// The model writes code whose registers are no numbers, but the instructions that make them, and whose cells have no memories: all of it is numbered once it is there.

// sym is an instruction: what it asks for, what it is about, and over what it goes.
type sym struct {
	op    int
	place int
	cell  *modelCell // whose memory it is about
	v     int64
	from  []*sym
	over  []*sym
}

// modelCell is one that is taken: of expression e next, or 0.
type modelCell struct {
	memory  int
	hasNext bool
	in      *modelScope
	e       int
}

// coded is code, the instruction that makes its value, and the cells that are taken.
type coded struct {
	l     []*sym
	value *sym
	cells []*modelCell
}

// modelScope is a declaration where code stands: what its parameters are (nil of the hybrid), and the lets that were written.
type modelScope struct {
	p    api.Program
	d    int
	args []*sym
	lets map[int]*sym
}

func hybridScope(p api.Program) *modelScope {
	d := slices.IndexFunc(p.Decls, func(d api.Decl) bool { return d.Kind == api.DeHybrid })
	return &modelScope{p, d, nil, map[int]*sym{}}
}

// join is code behind code, and an instruction behind all, of their values.
func join(op int, parts ...coded) coded {
	var all coded
	last := &sym{op: op}
	for _, c := range parts {
		all.l, all.cells = append(all.l, c.l...), append(all.cells, c.cells...)
		last.from = append(last.from, c.value)
	}
	return coded{append(all.l, last), last, all.cells}
}

func single(s *sym) coded { return coded{[]*sym{s}, s, nil} }

func taken(c *modelCell) coded {
	s := &sym{op: api.InMem, cell: c}
	return coded{[]*sym{s}, s, []*modelCell{c}}
}

func (s *modelScope) write(e int) coded {
	x := s.p.Exprs[e]
	switch x.Kind {
	case api.ExFix, api.ExBool:
		return single(&sym{op: api.InConst, v: x.V})
	case api.ExName:
		return s.writeName(x.Name)
	case api.ExIs:
		it, which := s.item(api.ItMode, x.Name)
		mems := len(s.all(api.ItMem))
		return join(api.InSame, single(&sym{op: api.InMem, place: mems + which}), single(&sym{op: api.InConst, v: int64(slices.Index(it.States, x.State))}))
	case api.ExPre:
		return taken(&modelCell{hasNext: true, in: s, e: x.A})
	case api.ExArrow:
		return join(api.InPick, taken(&modelCell{}), s.write(x.A), s.write(x.B))
	case api.ExFby:
		// What is picked stands in another order than it is taken in.
		c := join(api.InPick, taken(&modelCell{}), taken(&modelCell{hasNext: true, in: s, e: x.B}), s.write(x.A))
		c.value.from[1], c.value.from[2] = c.value.from[2], c.value.from[1]
		return c
	case api.ExCall:
		var all coded
		inner := &modelScope{s.p, names.Decl(s.p, x.Name), []*sym{}, map[int]*sym{}}
		for _, arg := range x.Args {
			c := s.write(arg)
			all.l, all.cells, inner.args = append(all.l, c.l...), append(all.cells, c.cells...), append(inner.args, c.value)
		}
		c := inner.write(s.p.Decls[inner.d].E)
		return coded{append(all.l, c.l...), c.value, append(all.cells, c.cells...)}
	}
	var parts []coded
	for _, part := range ast.Parts(x) {
		parts = append(parts, s.write(part))
	}
	return join(modelOps[x.Kind], parts...)
}

// modelOps are the chapter's instructions of operators.
var modelOps = map[int]int{4: 6, 5: 7, 21: 8, 6: 9, 7: 10, 8: 11, 9: 12, 10: 13, 11: 14, 12: 15, 13: 16, 14: 17, 15: 18}

func (s *modelScope) writeName(name string) coded {
	v, _ := names.Find(s.p, s.d, name)
	if v.Sort == api.VarLet {
		if had := s.lets[v.Index]; had != nil {
			return coded{nil, had, nil}
		}
		c := s.write(s.p.Decls[s.d].Items[v.Index].E)
		s.lets[v.Index] = c.value
		return c
	}
	switch {
	case v.Sort == api.VarParam && s.args != nil:
		return coded{nil, s.args[v.Index], nil}
	case s.args != nil:
		return single(&sym{op: api.InConst})
	case v.Sort == api.VarParam:
		return single(&sym{op: api.InIn, place: v.Index})
	case v.Sort == api.VarDer:
		_, which := s.item(api.ItDer, name)
		return single(&sym{op: api.InState, place: which})
	}
	_, which := s.item(api.ItMem, name)
	return single(&sym{op: api.InMem, place: which})
}

// all are the declaration's items of a kind.
func (s *modelScope) all(kind int) []api.Item {
	var l []api.Item
	for _, it := range s.p.Decls[s.d].Items {
		if it.Kind == kind {
			l = append(l, it)
		}
	}
	return l
}

// item is the one of a kind that has a name, and which of these it is.
func (s *modelScope) item(kind int, name string) (api.Item, int) {
	l := s.all(kind)
	i := slices.IndexFunc(l, func(it api.Item) bool { return it.Name == name })
	return l[i], i
}

// behind is what stands behind code that takes cells, from a memory on.
func behind(c coded, memory int) []*sym {
	l := c.l
	for left := c.cells; len(left) > 0; left = left[1:] {
		left[0].memory = memory
		memory++
		next := single(&sym{op: api.InConst})
		if left[0].hasNext {
			next = left[0].in.write(left[0].e)
		}
		l = append(append(l, next.l...), &sym{op: api.InStore, cell: left[0], from: []*sym{next.value}})
		left = append(left, next.cells...)
	}
	return l
}

// numbered is a piece whose registers and memories have their numbers.
func numbered(l []*sym) []api.Ins {
	registers := map[*sym]int{}
	var code []api.Ins
	var put func(l []*sym)
	put = func(l []*sym) {
		for _, s := range l {
			in := api.Ins{Op: s.op, V: s.v}
			place := s.place
			if s.cell != nil {
				place = s.cell.memory
			}
			for i, to := range []*int{&in.A, &in.B, &in.C}[:len(s.from)] {
				*to = registers[s.from[i]]
			}
			if s.op < api.InSkip {
				in.D = len(registers)
				registers[s] = in.D
			}
			switch {
			case s.op >= api.InPut:
				in.D = place
			case s.op <= api.InCross:
				in.A = place
			}
			at := len(code)
			code = append(code, in)
			if s.op == api.InSkip {
				put(s.over)
				code[at].B = len(code) - at - 1
			}
		}
	}
	put(l)
	return code
}

// modelObject is the object of a program without faults, however much it is.
func modelObject(p api.Program) api.Object {
	r, _ := eval.Prepare(p)
	h := hybridScope(p)
	var o api.Object
	for _, x := range p.Decls[h.d].Params {
		o.In = append(o.In, x.Type)
	}
	for _, it := range h.all(api.ItOut) {
		v, _ := names.Find(p, h.d, it.Name)
		o.Out = append(o.Out, v.Type)
	}
	for _, it := range h.all(api.ItDer) {
		q, flags := r.Const(it.F)
		o.State, o.Flags = append(o.State, q), o.Flags|flags
	}
	for _, it := range h.all(api.ItMem) {
		q, flags := r.Const(it.E)
		o.Mem, o.Flags = append(o.Mem, q), o.Flags|flags
	}
	o.Mem = append(o.Mem, make([]int64, len(h.all(api.ItMode)))...)
	var deriv, zero, step, at []*sym
	put := func(l *[]*sym, place int, c coded) {
		*l = append(append(*l, c.l...), &sym{op: api.InPut, place: place, from: []*sym{c.value}})
	}
	for i, it := range h.all(api.ItDer) {
		put(&deriv, i, h.write(it.E))
	}
	h.lets = map[int]*sym{}
	for i, it := range h.all(api.ItOut) {
		put(&at, i, h.writeName(it.Name))
	}
	h.lets = map[int]*sym{}
	for _, it := range p.Decls[h.d].Items {
		if it.Kind != api.ItReset && it.Kind != api.ItOn && it.Kind != api.ItFrom {
			continue
		}
		put(&zero, o.Cross, h.write(it.F))
		step = append(hybridScope(p).writeCrossing(o.Cross, it, len(o.Mem)), step...)
		if it.Kind != api.ItFrom {
			o.Mem = append(o.Mem, r.Cells(it.E)...)
		}
		o.Cross++
	}
	o.Deriv, o.Zero, o.Step, o.At = numbered(deriv), numbered(zero), numbered(step), numbered(at)
	return o
}

func (s *modelScope) writeCrossing(i int, it api.Item, memory int) []*sym {
	cross := &sym{op: api.InCross, place: i}
	skip := &sym{op: api.InSkip, from: []*sym{cross}}
	switch it.Kind {
	case api.ItFrom:
		mode, which := s.item(api.ItMode, it.Name)
		number := func(state string) *sym {
			return &sym{op: api.InConst, v: int64(slices.Index(mode.States, state))}
		}
		which += len(s.all(api.ItMem))
		same := join(api.InSame, single(&sym{op: api.InMem, place: which}), single(number(it.State)))
		next := number(it.Next)
		inner := &sym{op: api.InSkip, from: []*sym{same.value}, over: []*sym{next, {op: api.InStore, place: which, from: []*sym{next}}}}
		skip.over = append(same.l, inner)
	case api.ItReset:
		_, which := s.item(api.ItDer, it.Name)
		c := s.write(it.E)
		skip.over = append(behind(c, memory), &sym{op: api.InSet, place: which, from: []*sym{c.value}})
	case api.ItOn:
		_, which := s.item(api.ItMem, it.Name)
		c := s.write(it.E)
		skip.over = append(behind(c, memory), &sym{op: api.InStore, place: which, from: []*sym{c.value}})
	}
	return []*sym{cross, skip}
}
