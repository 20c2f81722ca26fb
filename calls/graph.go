package calls

import (
	"slices"

	"astrolabe/api"
)

// graph is who calls whom, or who reaches whom: of each declaration the set of those others, or itself.
type graph []set

// graphOf is who calls whom in a program that is right by its kinds.
func graphOf(p api.Program) graph {
	g := make(graph, len(p.Decls))
	calls := callsOf(p)
	for d := range g {
		g[d] = calls(d)
	}
	return g
}

// callsOf tells which declarations one calls.
func callsOf(p api.Program) func(d int) set {
	calls := caller(p)
	return func(d int) set {
		s := emptySet(len(p.Decls))
		for _, called := range calls(d) {
			s.put(called)
		}
		return s
	}
}

// order tells declarations: again and again the least that isn't told, of those that call told ones alone. Left are those of which that never comes true, rising.
func (g graph) order() (told, left []int) {
	waits := make([]int, len(g))
	ready := emptySet(len(g))
	for d, calls := range g {
		waits[d] = calls.size()
		if waits[d] == 0 {
			ready.put(d)
		}
	}
search:
	for {
		for least := range ready.all() {
			ready.drop(least)
			told = append(told, least)
			for d, calls := range g {
				if !calls.has(least) {
					continue
				}
				waits[d]--
				if waits[d] == 0 {
					ready.put(d)
				}
			}
			continue search
		}
		break
	}
	for d, count := range waits {
		if count > 0 {
			left = append(left, d)
		}
	}
	return told, left
}

// closed is who reaches whom in a program that is right by its kinds. Called ones are gone through first, as far as they can be: a set that is whole by then is put into those of its callers alone.
func closed(p api.Program) graph {
	g := graphOf(p)
	told, left := g.order()
	for _, over := range slices.Concat(told, left) {
		for _, s := range g {
			if s.has(over) {
				s.add(g[over])
			}
		}
	}
	return g
}
