package lower

import (
	"astrolabe/api"
	"astrolabe/ast"
)

// operators are the instructions of operators, by the kinds of expressions.
var operators = [...]int{
	api.ExNeg:  api.InNeg,
	api.ExNot:  api.InNot,
	api.ExSqrt: api.InSqrt,
	api.ExAdd:  api.InAdd,
	api.ExSub:  api.InSub,
	api.ExMul:  api.InMul,
	api.ExDiv:  api.InDiv,
	api.ExLess: api.InLess,
	api.ExMost: api.InMost,
	api.ExSame: api.InSame,
	api.ExAnd:  api.InAnd,
	api.ExOr:   api.InOr,
	api.ExIf:   api.InPick,
}

// scope is where expressions of one declaration have their code: the registers of its parameters (the hybrid has none), and of its lets that were asked for, by their items.
type scope struct {
	*builder
	*site
	args []int
	lets map[int]int
}

func (b *builder) scope(h *site, args []int) *scope {
	return &scope{b, h, args, map[int]int{}}
}

// expr puts the code of an expression, and tells its register. Nested calls may go along all that the hybrid leads to: it is at most MaxFlat.
func (s *scope) expr(e int) int {
	x := s.p.Exprs[e]
	switch x.Kind {
	case api.ExFix, api.ExBool:
		return s.constant(x.V)
	case api.ExName:
		return s.named(x.Name)
	case api.ExIs:
		return s.is(x.Name, x.State)
	case api.ExPre:
		return s.cell(s.later(x.A))
	case api.ExArrow:
		first := s.cell(s.zero)
		parts := s.exprs(x.A, x.B)
		return s.made(api.InPick, first, parts[0], parts[1])
	case api.ExFby:
		first := s.cell(s.zero)
		ahead := s.cell(s.later(x.B))
		return s.made(api.InPick, first, s.expr(x.A), ahead)
	case api.ExCall:
		h := s.declared(x.Name)
		return s.scope(h, s.exprs(x.Args...)).expr(h.decl.E)
	}
	return s.made(operators[x.Kind], s.exprs(ast.Parts(x)...)...)
}

// exprs puts the code of each, in order, and tells their registers.
func (s *scope) exprs(l ...int) []int {
	var registers []int
	for _, e := range l {
		registers = append(registers, s.expr(e))
	}
	return registers
}

// later puts an expression's code when it is asked for.
func (s *scope) later(e int) func() int {
	return func() int { return s.expr(e) }
}

func (s *scope) named(name string) int {
	t := s.things[name]
	called := s.decl.Kind != api.DeHybrid
	switch {
	case t.Sort == api.VarLet:
		return s.let(t.Index)
	case t.Sort == api.VarParam && called:
		return s.args[t.number]
	case called:
		// No text has a fun or a node with a der or a mem: the object has no place for what one is, and layer 14 has it 0.
		return s.zero()
	case t.Sort == api.VarParam:
		return s.made(api.InIn, t.number)
	case t.Sort == api.VarDer:
		return s.made(api.InState, t.number)
	}
	return s.made(api.InMem, t.number)
}

func (s *scope) let(item int) int {
	if _, ok := s.lets[item]; !ok {
		s.lets[item] = s.expr(s.decl.Items[item].E)
	}
	return s.lets[item]
}

func (s *scope) is(mode, state string) int {
	now := s.made(api.InMem, s.memory(mode))
	return s.made(api.InSame, now, s.constant(s.state(mode, state)))
}

// crossing puts what is done on the one numbered i.
func (s *scope) crossing(i int, c crossing) {
	s.onlyIf(s.made(api.InCross, i), func() {
		if c.Kind == api.ItFrom {
			s.onlyIf(s.is(c.Name, c.State), func() {
				s.put(api.InStore, s.memory(c.Name), s.constant(s.state(c.Name, c.Next)))
			})
			return
		}
		v := s.withCells(c.cells, s.later(c.E))
		s.put(setter(c.Kind), s.things[c.Name].number, v)
	})
}

// setter is the instruction that gives a reset's der, or an on's mem, its value.
func setter(kind int) int {
	if kind == api.ItReset {
		return api.InSet
	}
	return api.InStore
}
