package calls

import (
	"iter"
	"slices"

	"astrolabe/api"
	"astrolabe/ast"
	"astrolabe/names"
)

// mostSize is how much a declaration is at most.
const mostSize = 1_000_000

// walker hands on the numbers of the expressions of some roots' trees, each once. Those to be met stand in a list, since a tree may be deeper than calls can be nested; what is met is kept for all walks, so that a small one costs little beside a great one.
func walker(p api.Program) func(roots []int) iter.Seq[int] {
	metBy := make([]int, len(p.Exprs))
	walks := 0
	return func(roots []int) iter.Seq[int] {
		return func(yield func(int) bool) {
			walks++
			left := slices.Clone(roots)
			for len(left) > 0 {
				e := left[len(left)-1]
				left = left[:len(left)-1]
				if metBy[e] == walks {
					continue
				}
				metBy[e] = walks
				if !yield(e) {
					return
				}
				left = append(left, ast.Parts(p.Exprs[e])...)
			}
		}
	}
}

// caller hands on the numbers of the calls in a declaration's trees, each once, with the number of what is called.
func caller(p api.Program) func(d int) iter.Seq2[int, int] {
	declared := map[string]int{}
	for d, x := range p.Decls {
		declared[x.Name] = d
	}
	met := walker(p)
	return func(d int) iter.Seq2[int, int] {
		return func(yield func(int, int) bool) {
			for e := range met(names.Roots(p, d)) {
				x := p.Exprs[e]
				if x.Kind == api.ExCall && !yield(e, declared[x.Name]) {
					return
				}
			}
		}
	}
}

// sizer tells how much declarations are: those that are called have to be asked for ahead of those that call them.
func sizer(p api.Program) func(d int) int {
	met := walker(p)
	known := map[string]int{}
	trees := make([]int, len(p.Exprs))
	sum := func(exprs []int) int {
		size := 0
		for _, e := range exprs {
			size = min(size+trees[e], mostSize)
		}
		return size
	}
	return func(d int) int {
		roots := names.Roots(p, d)
		// By rising number, since parts stand ahead of what they are of.
		for _, e := range slices.Sorted(met(roots)) {
			x := p.Exprs[e]
			trees[e] = 1 + sum(ast.Parts(x))
			if x.Kind == api.ExCall {
				trees[e] += known[x.Name]
			}
		}
		size := sum(roots)
		known[p.Decls[d].Name] = size
		return size
	}
}
