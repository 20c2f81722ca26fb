package inits

import (
	"iter"
	"slices"

	"astrolabe/api"
	"astrolabe/ast"
)

// scope is where expressions are asked: a program's expressions, and the lets of one of its declarations, by their names the number of each one's E.
type scope struct {
	p    api.Program
	lets map[string]int
}

func scopeOf(p api.Program, d int) scope {
	s := scope{p, map[string]int{}}
	for _, it := range p.Decls[d].Items {
		if it.Kind == api.ItLet {
			s.lets[it.Name] = it.E
		}
	}
	return s
}

// awaits are the numbers of the expressions any of which makes one late by being so. (A pre is late by itself.)
func (s scope) awaits(e int) []int {
	x := s.p.Exprs[e]
	switch x.Kind {
	case api.ExPre, api.ExFby, api.ExCall:
		return nil
	case api.ExArrow:
		return []int{x.A}
	case api.ExName:
		if let, ok := s.lets[x.Name]; ok {
			return []int{let}
		}
		return nil
	}
	return ast.Parts(x)
}

// lateFrom are those late ones that some expressions are, or that make them late.
func (s scope) lateFrom(exprs ...int) map[int]struct{} {
	return finder(s.p)(s, slices.Collect(walker(s.p)(exprs, s.awaits)))
}

// finder tells the late ones of some expressions in a scope, among which all are that these await. They grow from those that are late by themselves: whom one makes late is gone to once, when it is known to be late, since lets may await each other in long chains. Who awaits whom stands in lists that are kept for all scopes, so that a small one costs little beside a great one.
func finder(p api.Program) func(s scope, exprs []int) map[int]struct{} {
	awaitedBy := make([][]int, len(p.Exprs))
	return func(s scope, exprs []int) map[int]struct{} {
		late := map[int]struct{}{}
		var left []int
		grow := func(l ...int) {
			for _, e := range l {
				if _, ok := late[e]; !ok {
					late[e] = struct{}{}
					left = append(left, e)
				}
			}
		}
		for _, e := range exprs {
			awaitedBy[e] = awaitedBy[e][:0]
		}
		for _, e := range exprs {
			if p.Exprs[e].Kind == api.ExPre {
				grow(e)
			}
			for _, awaited := range s.awaits(e) {
				awaitedBy[awaited] = append(awaitedBy[awaited], e)
			}
		}
		for len(left) > 0 {
			e := left[len(left)-1]
			left = left[:len(left)-1]
			grow(awaitedBy[e]...)
		}
		return late
	}
}

// walker hands on the numbers of the expressions that some roots lead to, themselves, too, each once: next are those to which one leads. Those to be met stand in a list, since a tree may be deeper than calls can be nested; what is met is kept for all walks, so that a small one costs little beside a great one.
func walker(p api.Program) func(roots []int, next func(e int) []int) iter.Seq[int] {
	metBy := make([]int, len(p.Exprs))
	walks := 0
	return func(roots []int, next func(e int) []int) iter.Seq[int] {
		return func(yield func(int) bool) {
			walks++
			left := slices.Clone(roots)
			for len(left) > 0 {
				e := left[len(left)-1]
				left = left[:len(left)-1]
				if metBy[e] == walks {
					continue
				}
				metBy[e] = walks
				if !yield(e) {
					return
				}
				left = append(left, next(e)...)
			}
		}
	}
}
