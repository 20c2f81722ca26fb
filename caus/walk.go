package caus

import (
	"iter"
	"slices"

	"astrolabe/api"
	"astrolabe/ast"
)

// atOnce are the numbers of an expression's parts, but for what is delayed.
func atOnce(x api.Expr) []int {
	switch x.Kind {
	case api.ExPre:
		return nil
	case api.ExFby:
		return []int{x.A}
	}
	return ast.Parts(x)
}

// walker hands on the numbers of the expressions that stand in some trees, but for what is delayed, each once. Those to be met stand in a list, since a tree may be deeper than calls can be nested; what is met is kept for all walks, so that a small one costs little beside a great one.
func walker(p api.Program) func(roots []int) iter.Seq[int] {
	metBy := make([]int, len(p.Exprs))
	walks := 0
	return func(roots []int) iter.Seq[int] {
		return func(yield func(int) bool) {
			walks++
			left := slices.Clone(roots)
			for len(left) > 0 {
				e := left[len(left)-1]
				left = left[:len(left)-1]
				if metBy[e] == walks {
					continue
				}
				metBy[e] = walks
				if !yield(e) {
					return
				}
				left = append(left, atOnce(p.Exprs[e])...)
			}
		}
	}
}
