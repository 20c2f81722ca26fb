package calls

import (
	"slices"

	"astrolabe/api"
	"astrolabe/ast"
	"astrolabe/names"
)

// The model: the chapter's sentences as they stand there, asked of each number of each tree.

// callsOfTrees are the numbers of the calls in a declaration's trees, each time one is met.
func callsOfTrees(p api.Program, d int) []int {
	var l []int
	for _, root := range names.Roots(p, d) {
		for _, e := range ast.Tree(p, root) {
			if p.Exprs[e].Kind == api.ExCall {
				l = append(l, e)
			}
		}
	}
	return l
}

func modelCalls(p api.Program, d int) []int {
	var l []int
	calls := callsOfTrees(p, d)
	for other, x := range p.Decls {
		if slices.ContainsFunc(calls, func(e int) bool { return p.Exprs[e].Name == x.Name }) {
			l = append(l, other)
		}
	}
	return l
}

// modelReaches grows until it has all that is called by what is in it.
func modelReaches(p api.Program, d int) []int {
	l := modelCalls(p, d)
	for i := 0; i < len(l); i++ {
		for _, other := range modelCalls(p, l[i]) {
			if !slices.Contains(l, other) {
				l = append(l, other)
			}
		}
	}
	slices.Sort(l)
	return l
}

// modelFaults are where a program's faults are, rising.
func modelFaults(p api.Program) []int {
	var reaches [][]int
	for d := range p.Decls {
		reaches = append(reaches, modelReaches(p, d))
	}
	var at []int
	for d := range p.Decls {
		for _, e := range callsOfTrees(p, d) {
			called := slices.IndexFunc(p.Decls, func(x api.Decl) bool { return x.Name == p.Exprs[e].Name })
			if called == d || slices.Contains(reaches[called], d) {
				at = append(at, p.Exprs[e].At)
			}
		}
	}
	slices.Sort(at)
	return slices.Compact(at)
}

// modelOrder is the order of declarations: as many of them as it tells.
func modelOrder(p api.Program) []int {
	var told []int
	var calls [][]int
	for d := range p.Decls {
		calls = append(calls, modelCalls(p, d))
	}
	for more := true; more; {
		more = false
		for d := range p.Decls {
			early := slices.ContainsFunc(calls[d], func(c int) bool { return !slices.Contains(told, c) })
			if !early && !slices.Contains(told, d) {
				told, more = append(told, d), true
				break
			}
		}
	}
	return told
}

// modelSize is how much a declaration of a program without faults is, held at the end alone.
func modelSize(p api.Program, d int) int {
	size := 0
	for _, root := range names.Roots(p, d) {
		for _, e := range ast.Tree(p, root) {
			size++
			if x := p.Exprs[e]; x.Kind == api.ExCall {
				size += modelSize(p, slices.IndexFunc(p.Decls, func(o api.Decl) bool { return o.Name == x.Name }))
			}
		}
	}
	return min(size, 1_000_000)
}

// drawer draws programs that are right by their kinds: the same ones each time. Declarations have ranks: of a thousand expressions some, wild, call what is no lower.
type drawer struct {
	state  uint64
	p      api.Program
	rank   []int // of Decls
	place  []int // of Exprs: the least place where it may stand; of a bool 10 more
	calls  []int // of Exprs: the highest rank that its tree calls
	wild   int
	at     func() int
	d      int // the declaration that is drawn
	stands int // the place where what is drawn stands
}

func (d *drawer) below(n int) int {
	d.state = d.state*6364136223846793005 + 1442695040888963407
	return int(d.state>>33) % n
}

func pick[T any](d *drawer, l ...T) T { return l[d.below(len(l))] }

// shuffle puts a list in any order.
func shuffle[T any](d *drawer, l []T) []T {
	for i := range l {
		k := d.below(i + 1)
		l[i], l[k] = l[k], l[i]
	}
	return l
}

// head draws a declaration, of names alone. In each of them there are the same ones, so that an expression may stand in any.
func (d *drawer) head(kind int, name string) api.Decl {
	x := api.Decl{Kind: kind, Name: name, At: d.at()}
	if kind != api.DeHybrid {
		x.Type = 1
	}
	for _, s := range []string{"a", "b"} {
		if d.below(2) == 0 {
			x.Params = append(x.Params, api.Param{Name: s, Type: 1})
		} else {
			x.Items = append(x.Items, api.Item{Kind: api.ItLet, Name: s, Type: 1})
		}
	}
	x.Items = append(x.Items, api.Item{Kind: api.ItMode, Name: "M", States: []string{"A"}}, api.Item{Kind: api.ItMem, Name: "k", Type: 1}, api.Item{Kind: api.ItDer, Name: "x"})
	for range d.below(3) {
		x.Items = append(x.Items, pick(d, api.Item{Kind: api.ItReset, Name: "x"}, api.Item{Kind: api.ItOn, Name: "k"}, api.Item{Kind: api.ItFrom, Name: "M", State: "A", Next: "A"}, api.Item{Kind: api.ItOut, Name: "x"}))
	}
	shuffle(d, x.Items)
	return x
}

// fill draws the expressions of the declaration i.
func (d *drawer) fill(i int) {
	x := &d.p.Decls[i]
	d.d = i
	draw := func(place int) int {
		d.stands = place
		return d.expr(d.below(4))
	}
	own := 2
	if x.Kind == api.DeNode {
		own = 3
	}
	for k := range x.Items {
		it := &x.Items[k]
		it.At = d.at()
		switch it.Kind {
		case api.ItLet:
			it.E = draw(own)
		case api.ItMem:
			it.E = draw(1)
		case api.ItDer:
			it.E, it.F = draw(2), draw(1)
		case api.ItReset, api.ItOn:
			it.E, it.F = draw(3), draw(2)
		case api.ItFrom:
			it.F = draw(2)
		}
	}
	if x.Kind != api.DeHybrid {
		x.E = draw(own)
	}
}

// mayCall tells whether what has this rank may be called from where it is drawn.
func (d *drawer) mayCall(rank int) bool {
	return rank < d.rank[d.d] || d.below(1000) < d.wild
}

// add puts an expression behind the others.
func (d *drawer) add(x api.Expr, place, calls int) int {
	for _, part := range ast.Parts(x) {
		place, calls = max(place, d.place[part]%10), max(calls, d.calls[part])
	}
	x.At = d.at()
	d.p.Exprs, d.place, d.calls = append(d.p.Exprs, x), append(d.place, place), append(d.calls, calls)
	return len(d.p.Exprs) - 1
}

// call draws a call, if it finds one that may be.
func (d *drawer) call(deep int) (int, bool) {
	for range 5 {
		called := d.below(len(d.p.Decls))
		x := d.p.Decls[called]
		if x.Kind == api.DeHybrid || x.Kind == api.DeNode && d.stands < 3 || !d.mayCall(d.rank[called]) {
			continue
		}
		e := api.Expr{Kind: api.ExCall, Name: x.Name}
		for range x.Params {
			e.Args = append(e.Args, d.expr(deep-1))
		}
		return d.add(e, map[int]int{api.DeFun: 1, api.DeNode: 3}[x.Kind], d.rank[called]), true
	}
	return 0, false
}

// expr draws a fix, or takes one that stands elsewhere already.
func (d *drawer) expr(deep int) int {
	if n := len(d.p.Exprs); n > 0 && d.below(4) == 0 {
		if e := d.below(n); d.place[e] <= d.stands && d.mayCall(d.calls[e]) {
			return e
		}
	}
	part := func() int { return d.expr(deep - 1) }
	k := d.below(10)
	switch {
	case deep > 0 && k < 4:
		if e, ok := d.call(deep); ok {
			return e
		}
	case deep > 0 && k < 6:
		return d.add(api.Expr{Kind: pick(d, api.ExAdd, api.ExSub, api.ExMul, api.ExDiv), A: part(), B: part()}, 1, -1)
	case deep > 0 && k == 6:
		return d.add(api.Expr{Kind: pick(d, api.ExNeg, api.ExSqrt), A: part()}, 1, -1)
	case deep > 0 && k == 7:
		asked := d.add(api.Expr{Kind: pick(d, api.ExLess, api.ExMost, api.ExSame), A: part(), B: part()}, 1, -1)
		d.place[asked] += 10
		return d.add(api.Expr{Kind: api.ExIf, A: asked, B: part(), C: part()}, 1, -1)
	case deep > 0 && k == 8 && d.stands == 3:
		return d.add(api.Expr{Kind: pick(d, api.ExArrow, api.ExFby), A: part(), B: part()}, 3, -1)
	case d.stands > 1 && k < 9:
		return d.add(api.Expr{Kind: api.ExName, Name: pick(d, "a", "b", "x", "k")}, 2, -1)
	}
	return d.add(api.Expr{Kind: api.ExFix, V: int64(k)}, 1, -1)
}

// program draws a program whose places in the text are all their own, or are few.
func (d *drawer) program(wild int) api.Program {
	d.p, d.place, d.calls, d.wild = api.Program{}, nil, nil, wild
	last, few := 0, d.below(4) == 0
	d.at = func() int {
		last += 1 + d.below(3)
		if few {
			return d.below(30) - 2
		}
		return last
	}
	for _, name := range shuffle(d, []string{"f", "g", "h", "i", "j", "k", "l"})[:d.below(8)] {
		d.p.Decls = append(d.p.Decls, d.head(api.DeFun+d.below(2), name))
	}
	d.p.Decls = slices.Insert(d.p.Decls, d.below(len(d.p.Decls)+1), d.head(api.DeHybrid, "m"))
	d.rank = nil
	for i := range d.p.Decls {
		d.rank = append(d.rank, i)
	}
	shuffle(d, d.rank)
	if d.below(2) == 0 { // what no declaration leads to
		d.add(api.Expr{Kind: api.ExCall, Name: pick(d, "nobody's", "f", "g", "m")}, 9, -1)
		d.add(api.Expr{Kind: api.ExNeg, A: 0}, 9, -1)
	}
	for i := range d.p.Decls {
		d.fill(i)
	}
	return d.p
}
