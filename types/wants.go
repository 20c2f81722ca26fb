package types

import (
	"iter"
	"slices"

	"astrolabe/api"
	"astrolabe/ast"
)

// wants are the numbers of expressions, each with a type that it has to be of where it stands.
type wants = iter.Seq2[int, int]

// wrong hands on the numbers of the expressions of a program, right by its names, that are of another type than is wanted: in no order, some more than once.
func wrong(p api.Program) iter.Seq[int] {
	return func(yield func(int) bool) {
		decls := called(p)
		for i, d := range p.Decls {
			s := scopeOf(p, decls, i)
			for e, typ := range s.wantedIn(d) {
				if s.types[e] != typ && !yield(e) {
					return
				}
			}
		}
	}
}

// wantedIn hands on what is wanted of all expressions of a declaration. They are met by number, downward, since parts stand ahead of what they are of, and a tree may be too great, and too deep, to be walked.
func (s scope) wantedIn(d api.Decl) wants {
	return func(yield func(int, int) bool) {
		met := make([]bool, len(s.exprs))
		for e, typ := range s.wantedOfOwn(d) {
			met[e] = true
			if !yield(e, typ) {
				return
			}
		}
		for e, x := range slices.Backward(s.exprs) {
			if !met[e] {
				continue
			}
			for _, part := range ast.Parts(x) {
				met[part] = true
			}
			for part, typ := range s.wantedOfParts(x) {
				if !yield(part, typ) {
					return
				}
			}
		}
	}
}

// wantedOfOwn hands on what is wanted of a declaration's own expressions, each of which is wanted to be something.
func (s scope) wantedOfOwn(d api.Decl) wants {
	var l []wants
	for _, it := range d.Items {
		switch it.Kind {
		case api.ItLet, api.ItMem:
			l = append(l, all(it.Type, it.E))
		case api.ItDer, api.ItReset:
			l = append(l, all(api.TypeFix, it.E, it.F))
		case api.ItOn:
			l = append(l, all(s.vars[it.Name], it.E), all(api.TypeFix, it.F))
		case api.ItFrom:
			l = append(l, all(api.TypeFix, it.F))
		}
	}
	if d.Kind != api.DeHybrid {
		l = append(l, all(d.Type, d.E))
	}
	return joined(l...)
}

// wantedOfParts hands on what is wanted of an expression's parts; of some nothing is.
func (s scope) wantedOfParts(x api.Expr) wants {
	switch x.Kind {
	case api.ExNeg, api.ExSqrt, api.ExAdd, api.ExSub, api.ExMul, api.ExDiv, api.ExLess, api.ExMost:
		return all(api.TypeFix, ast.Parts(x)...)
	case api.ExNot, api.ExAnd, api.ExOr:
		return all(api.TypeBool, ast.Parts(x)...)
	case api.ExSame, api.ExArrow, api.ExFby:
		return all(s.types[x.A], x.B)
	case api.ExIf:
		return joined(all(api.TypeBool, x.A), all(s.types[x.B], x.C))
	case api.ExCall:
		return s.wantedOfArgs(x)
	}
	return joined()
}

// wantedOfArgs hands on what is wanted of the arguments of a call: there are as many parameters.
func (s scope) wantedOfArgs(x api.Expr) wants {
	return func(yield func(int, int) bool) {
		params := s.called[x.Name].Params
		for i, e := range x.Args {
			if !yield(e, params[i].Type) {
				return
			}
		}
	}
}

// all wants one type of several expressions.
func all(typ int, exprs ...int) wants {
	return func(yield func(int, int) bool) {
		for _, e := range exprs {
			if !yield(e, typ) {
				return
			}
		}
	}
}

// joined wants all that is wanted in a list.
func joined(l ...wants) wants {
	return func(yield func(int, int) bool) {
		for _, w := range l {
			for e, typ := range w {
				if !yield(e, typ) {
					return
				}
			}
		}
	}
}
