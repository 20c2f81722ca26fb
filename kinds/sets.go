package kinds

import (
	"iter"
	"slices"

	"astrolabe/api"
	"astrolabe/ast"
)

// set is a set of kinds of expressions, a bit each.
type set uint32

// callOfNode is what a call of a node is in sets, beside the kinds that expressions have.
const callOfNode = 0

const (
	remembers set = 1<<api.ExPre | 1<<api.ExArrow | 1<<api.ExFby | 1<<callOfNode
	asksMode  set = 1 << api.ExIs
	asksName  set = 1 << api.ExName
)

// forbidden is what each place forbids.
var forbidden = [...]set{
	constant: remembers | asksName | asksMode,
	smooth:   remembers,
	discrete: 0,
}

// forbiddenBy is what a kind of declarations forbids in all of its places.
func forbiddenBy(kind int) set {
	if kind == api.DeHybrid {
		return 0
	}
	return asksMode
}

// wrong hands on the numbers of the expressions of a program, right by its types, that stand where they are forbidden: each once.
func wrong(p api.Program) iter.Seq[int] {
	asked := make([]set, len(p.Exprs))
	for _, d := range p.Decls {
		for e, place := range placed(d) {
			asked[e] |= forbidden[place] | forbiddenBy(d.Kind)
		}
	}
	return against(p, asked)
}

// against hands on the numbers of the expressions that are of a kind that is forbidden where they stand: asked is what is forbidden of trees, by their numbers, and is handed down to their parts. They are met by number, downward, since parts stand ahead of what they are of, and a tree may be too great, and too deep, to be walked.
func against(p api.Program, asked []set) iter.Seq[int] {
	return func(yield func(int) bool) {
		kind := kindsOf(p.Decls)
		for e, no := range slices.Backward(asked) {
			x := p.Exprs[e]
			if no&(1<<kind(x)) != 0 && !yield(e) {
				return
			}
			for _, part := range ast.Parts(x) {
				asked[part] |= no
			}
		}
	}
}

// kindsOf tells what expressions are in sets.
func kindsOf(decls []api.Decl) func(x api.Expr) int {
	declared := map[string]int{}
	for _, d := range decls {
		declared[d.Name] = d.Kind
	}
	return func(x api.Expr) int {
		if x.Kind == api.ExCall && declared[x.Name] == api.DeNode {
			return callOfNode
		}
		return x.Kind
	}
}
