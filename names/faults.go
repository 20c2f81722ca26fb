package names

import (
	"iter"
	"slices"

	"astrolabe/api"
	"astrolabe/ast"
)

// wrong hands on where a program's faults stand, in no order, some more than once; of a program that may not be there are none.
func wrong(p api.Program) iter.Seq[int] {
	return func(yield func(int) bool) {
		if !may(p) {
			return
		}
		first := firsts(p)
		for at := range wrongDecls(p, first) {
			if !yield(at) {
				return
			}
		}
		met := walker(p)
		for i, d := range p.Decls {
			s := scopeOf(d)
			for at := range wrongItems(d, s) {
				if !yield(at) {
					return
				}
			}
			for x := range met(i) {
				if s.isWrong(p, first, x) && !yield(x.At) {
					return
				}
			}
		}
	}
}

// firsts are the numbers of the first declarations of names.
func firsts(p api.Program) map[string]int {
	first := map[string]int{}
	for i, d := range p.Decls {
		if _, ok := first[d.Name]; !ok {
			first[d.Name] = i
		}
	}
	return first
}

// wrongDecls hands on where a program's declarations do not go together.
func wrongDecls(p api.Program, first map[string]int) iter.Seq[int] {
	return func(yield func(int) bool) {
		hybrids := 0
		for i, d := range p.Decls {
			twice := first[d.Name] != i
			if d.Kind == api.DeHybrid {
				hybrids++
				twice = twice || hybrids > 1
			}
			if twice && !yield(d.At) {
				return
			}
		}
		if hybrids == 0 {
			yield(0)
		}
	}
}

// state is a state of an item.
type state struct {
	item int
	name string
}

// scope is what a declaration's names are, and which states its items have.
type scope struct {
	vars   map[string]api.Var
	states map[state]struct{}
}

func scopeOf(d api.Decl) scope {
	s := scope{map[string]api.Var{}, map[state]struct{}{}}
	for v := range vars(d) {
		if _, ok := s.vars[v.Name]; !ok {
			s.vars[v.Name] = v
		}
	}
	for i, it := range d.Items {
		for _, name := range it.States {
			s.states[state{i, name}] = struct{}{}
		}
	}
	return s
}

// isA tells whether a name is of one of these sorts.
func (s scope) isA(name string, sorts ...int) bool {
	v, ok := s.vars[name]
	return ok && slices.Contains(sorts, v.Sort)
}

// hasState tells whether a name is a mode, and has a state.
func (s scope) hasState(mode, name string) bool {
	_, ok := s.states[state{s.vars[mode].Index, name}]
	return ok && s.isA(mode, api.VarMode)
}

// wrongItems hands on where a declaration's parameters and items have faults.
func wrongItems(d api.Decl, s scope) iter.Seq[int] {
	return func(yield func(int) bool) {
		named := func(x api.Param) string { return x.Name }
		if hasTwice(d.Params, named) && !yield(d.At) {
			return
		}
		for i, it := range d.Items {
			if (s.isTaken(i, it) || s.misses(it)) && !yield(it.At) {
				return
			}
		}
	}
}

// hasTwice tells whether two of a list have one name.
func hasTwice[T any](l []T, name func(T) string) bool {
	met := map[string]struct{}{}
	for _, x := range l {
		met[name(x)] = struct{}{}
	}
	return len(met) < len(l)
}

// isTaken tells whether the item i makes a name that another one ahead of it has, or a state that it has already.
func (s scope) isTaken(i int, it api.Item) bool {
	if sort, _ := made(it); sort == 0 {
		return false
	}
	if v := s.vars[it.Name]; v.Sort == api.VarParam || v.Index != i {
		return true
	}
	itself := func(name string) string { return name }
	return it.Kind == api.ItMode && hasTwice(it.States, itself)
}

// misses tells whether an item's name isn't what that item is about.
func (s scope) misses(it api.Item) bool {
	switch it.Kind {
	case api.ItReset:
		return !s.isA(it.Name, api.VarDer)
	case api.ItOn:
		return !s.isA(it.Name, api.VarMem)
	case api.ItFrom:
		return !s.hasState(it.Name, it.State) || !s.hasState(it.Name, it.Next)
	case api.ItOut:
		return !s.isA(it.Name, api.VarLet, api.VarDer, api.VarMem)
	}
	return false
}

// isWrong tells whether an expression's name isn't what it has to be in a scope.
func (s scope) isWrong(p api.Program, first map[string]int, x api.Expr) bool {
	switch x.Kind {
	case api.ExName:
		return !s.isA(x.Name, api.VarParam, api.VarLet, api.VarDer, api.VarMem)
	case api.ExIs:
		return !s.hasState(x.Name, x.State)
	case api.ExCall:
		d, ok := first[x.Name]
		return !ok || p.Decls[d].Kind == api.DeHybrid || len(p.Decls[d].Params) != len(x.Args)
	}
	return false
}

// walker hands on the expressions of a declaration's trees, each once. Those to be met stand in a list, since a tree may be deeper than calls can be nested; what is met is kept for all declarations, so that a small one costs little beside a great one.
func walker(p api.Program) func(d int) iter.Seq[api.Expr] {
	metBy := make([]int, len(p.Exprs))
	return func(d int) iter.Seq[api.Expr] {
		return func(yield func(api.Expr) bool) {
			left := slices.Collect(roots(p.Decls[d]))
			for len(left) > 0 {
				n := left[len(left)-1]
				left = left[:len(left)-1]
				if metBy[n] == d+1 {
					continue
				}
				metBy[n] = d + 1
				if !yield(p.Exprs[n]) {
					return
				}
				left = append(left, ast.Parts(p.Exprs[n])...)
			}
		}
	}
}
