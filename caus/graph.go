package caus

import (
	"container/heap"
	"iter"
	"slices"
	"sort"

	"astrolabe/api"
)

// graph is what asks for what in a declaration. Its nodes are the expressions for which the lets ask at once, then the lets, as they stand: a let asks for its E, an expression for its parts that aren't delayed, a name for the let that it is. Expressions are nodes, too, since one that many lets have is gone through once then.
type graph struct {
	asks [][]int // of each node
	lets []int   // the last nodes' numbers of items
}

// grapher makes the graphs of a program's declarations.
func grapher(p api.Program) func(d int) graph {
	met := walker(p)
	nodeOf := make([]int, len(p.Exprs))
	return func(d int) graph {
		lets, roots := letsOf(p.Decls[d])
		exprs := slices.Collect(met(roots))
		for node, e := range exprs {
			nodeOf[e] = node
		}
		named := map[string]int{}
		for i, let := range lets {
			named[p.Decls[d].Items[let].Name] = len(exprs) + i
		}
		g := graph{lets: lets}
		for _, e := range exprs {
			asks := nodesOf(nodeOf, atOnce(p.Exprs[e]))
			if let, ok := named[p.Exprs[e].Name]; ok && p.Exprs[e].Kind == api.ExName {
				asks = append(asks, let)
			}
			g.asks = append(g.asks, asks)
		}
		for _, e := range roots {
			g.asks = append(g.asks, []int{nodeOf[e]})
		}
		return g
	}
}

// letsOf are a declaration's lets, and the E of each.
func letsOf(d api.Decl) (lets, exprs []int) {
	for i, it := range d.Items {
		if it.Kind == api.ItLet {
			lets, exprs = append(lets, i), append(exprs, it.E)
		}
	}
	return lets, exprs
}

func nodesOf(nodeOf, exprs []int) []int {
	nodes := make([]int, 0, len(exprs)+1)
	for _, e := range exprs {
		nodes = append(nodes, nodeOf[e])
	}
	return nodes
}

// letAt is the number of the item that a node is, and whether it is a let.
func (g graph) letAt(node int) (int, bool) {
	i := node - (len(g.asks) - len(g.lets))
	if i < 0 {
		return 0, false
	}
	return g.lets[i], true
}

// order tells the lets: again and again the first that isn't told, of those that ask for told ones alone. The least node is the next one: expressions stand ahead of lets, so that those that no let holds up are done with ahead of the next let.
func (g graph) order() []int {
	waits := make([]int, len(g.asks))
	askedBy := make([][]int, len(g.asks))
	ready := &queue{}
	for node, asks := range g.asks {
		waits[node] = len(asks)
		if waits[node] == 0 {
			heap.Push(ready, node)
		}
		for _, asked := range asks {
			askedBy[asked] = append(askedBy[asked], node)
		}
	}
	var told []int
	for ready.Len() > 0 {
		least := ready.IntSlice[0]
		heap.Pop(ready)
		if let, ok := g.letAt(least); ok {
			told = append(told, let)
		}
		for _, node := range askedBy[least] {
			waits[node]--
			if waits[node] == 0 {
				heap.Push(ready, node)
			}
		}
	}
	return told
}

// queue is a heap of numbers, the least one ahead.
type queue struct{ sort.IntSlice }

func (q *queue) Push(x any) {
	if n, ok := x.(int); ok {
		q.IntSlice = append(q.IntSlice, n)
	}
}

func (q *queue) Pop() any {
	last := len(q.IntSlice) - 1
	n := q.IntSlice[last]
	q.IntSlice = q.IntSlice[:last]
	return n
}

// hanging hands on the numbers of the items that are lets that hang on themselves: those of a knot. (Each knot has lets, since an expression's parts stand ahead of it.)
func (g graph) hanging() iter.Seq[int] {
	return func(yield func(int) bool) {
		for knot := range g.knots() {
			for _, node := range knot {
				if let, ok := g.letAt(node); ok && !yield(let) {
					return
				}
			}
		}
	}
}
