package caus

import (
	"slices"
	"strings"

	"astrolabe/api"
	"astrolabe/ast"
)

// The model: the chapter's sentences as they stand there, asked of each number of each tree.

// standing hands on the numbers of an expression's tree, each time one is met, with whether it stands in an ExPre, or in the B of an ExFby.
func standing(p api.Program, e int, delayed bool, yield func(n int, delayed bool)) {
	yield(e, delayed)
	x := p.Exprs[e]
	for i, part := range ast.Parts(x) {
		standing(p, part, delayed || x.Kind == api.ExPre || x.Kind == api.ExFby && i == 1, yield)
	}
}

func modelAsks(p api.Program, e int) []string {
	first := map[string]int{}
	standing(p, e, false, func(n int, delayed bool) {
		x := p.Exprs[n]
		if delayed || x.Kind != api.ExName {
			return
		}
		if other, ok := first[x.Name]; !ok || n < other {
			first[x.Name] = n
		}
	})
	var l []string
	for name := range first {
		l = append(l, name)
	}
	slices.SortFunc(l, func(a, b string) int { return first[a] - first[b] })
	return l
}

// modelLets are the lets of a declaration, as numbers of items.
func modelLets(p api.Program, d int) []int {
	var l []int
	for i, it := range p.Decls[d].Items {
		if it.Kind == api.ItLet {
			l = append(l, i)
		}
	}
	return l
}

// modelAsked are the lets for which a let asks.
func modelAsked(p api.Program, d, let int) []int {
	var l []int
	asks := modelAsks(p, p.Decls[d].Items[let].E)
	for _, other := range modelLets(p, d) {
		if slices.Contains(asks, p.Decls[d].Items[other].Name) {
			l = append(l, other)
		}
	}
	return l
}

// modelHangs grows until it has all for which what is in it asks.
func modelHangs(p api.Program, d, let int) []int {
	l := modelAsked(p, d, let)
	for i := 0; i < len(l); i++ {
		for _, other := range modelAsked(p, d, l[i]) {
			if !slices.Contains(l, other) {
				l = append(l, other)
			}
		}
	}
	return l
}

// modelFaults are where a program's faults are, rising.
func modelFaults(p api.Program) []int {
	var at []int
	for d := range p.Decls {
		for _, let := range modelLets(p, d) {
			if slices.Contains(modelHangs(p, d, let), let) {
				at = append(at, p.Decls[d].Items[let].At)
			}
		}
	}
	slices.Sort(at)
	return slices.Compact(at)
}

// modelOrder is the order of a declaration's lets: as many of them as it tells.
func modelOrder(p api.Program, d int) []int {
	var told []int
	untold := func(let int) bool { return !slices.Contains(told, let) }
	for more := true; more; {
		more = false
		for _, let := range modelLets(p, d) {
			if untold(let) && !slices.ContainsFunc(modelAsked(p, d, let), untold) {
				told, more = append(told, let), true
				break
			}
		}
	}
	return told
}

// drawer draws programs that are right by their calls: the same ones each time. Declarations have ranks, and call what is lower.
type drawer struct {
	state  uint64
	p      api.Program
	rank   []int // of Decls
	place  []int // of Exprs: the least place where it may stand; of a bool 10 more
	calls  []int // of Exprs: the highest rank that its tree calls
	named  int   // of twenty leaves so many are names
	at     func() int
	d      int // the declaration that is drawn
	stands int // the place where what is drawn stands
}

func (d *drawer) below(n int) int {
	d.state = d.state*6364136223846793005 + 1442695040888963407
	return int(d.state>>33) % n
}

func pick[T any](d *drawer, l ...T) T { return l[d.below(len(l))] }

// shuffle puts a list in any order.
func shuffle[T any](d *drawer, l []T) []T {
	for i := range l {
		k := d.below(i + 1)
		l[i], l[k] = l[k], l[i]
	}
	return l
}

// The names that all declarations have, so that an expression may stand in any: the first ones are parameters or lets.
var everywhere = [...]string{"a", "b", "c", "d", "e", "f", "k", "x"}

// head draws a declaration, of names alone.
func (d *drawer) head(kind int, name string) api.Decl {
	x := api.Decl{Kind: kind, Name: name, At: d.at()}
	if kind != api.DeHybrid {
		x.Type = 1
	}
	for i, s := range everywhere[:6] {
		if i < 2 && d.below(2) == 0 {
			x.Params = append(x.Params, api.Param{Name: s, Type: 1})
		} else {
			x.Items = append(x.Items, api.Item{Kind: api.ItLet, Name: s, Type: 1})
		}
	}
	x.Items = append(x.Items, api.Item{Kind: api.ItMode, Name: "M", States: []string{"A"}}, api.Item{Kind: api.ItMem, Name: "k", Type: 1}, api.Item{Kind: api.ItDer, Name: "x"})
	for range d.below(3) {
		x.Items = append(x.Items, pick(d, api.Item{Kind: api.ItReset, Name: "x"}, api.Item{Kind: api.ItOn, Name: "k"}, api.Item{Kind: api.ItFrom, Name: "M", State: "A", Next: "A"}, api.Item{Kind: api.ItOut, Name: "x"}))
	}
	shuffle(d, x.Items)
	return x
}

// fill draws the expressions of the declaration i.
func (d *drawer) fill(i int) {
	x := &d.p.Decls[i]
	d.d = i
	draw := func(place int) int {
		d.stands = place
		return d.expr(d.below(4))
	}
	own := 2
	if x.Kind == api.DeNode {
		own = 3
	}
	for k := range x.Items {
		it := &x.Items[k]
		it.At = d.at()
		switch it.Kind {
		case api.ItLet:
			it.E = draw(own)
		case api.ItMem:
			it.E = draw(1)
		case api.ItDer:
			it.E, it.F = draw(2), draw(1)
		case api.ItReset, api.ItOn:
			it.E, it.F = draw(3), draw(2)
		case api.ItFrom:
			it.F = draw(2)
		}
	}
	if x.Kind != api.DeHybrid {
		x.E = draw(own)
	}
}

// add puts an expression behind the others.
func (d *drawer) add(x api.Expr, place, calls int) int {
	for _, part := range ast.Parts(x) {
		place, calls = max(place, d.place[part]%10), max(calls, d.calls[part])
	}
	x.At = d.at()
	d.p.Exprs, d.place, d.calls = append(d.p.Exprs, x), append(d.place, place), append(d.calls, calls)
	return len(d.p.Exprs) - 1
}

// call draws a call, if it finds one that may be.
func (d *drawer) call(deep int) (int, bool) {
	for range 5 {
		called := d.below(len(d.p.Decls))
		x := d.p.Decls[called]
		if x.Kind == api.DeHybrid || x.Kind == api.DeNode && d.stands < 3 || d.rank[called] >= d.rank[d.d] {
			continue
		}
		e := api.Expr{Kind: api.ExCall, Name: x.Name}
		for range x.Params {
			e.Args = append(e.Args, d.expr(deep-1))
		}
		return d.add(e, map[int]int{api.DeFun: 1, api.DeNode: 3}[x.Kind], d.rank[called]), true
	}
	return 0, false
}

// expr draws a fix, or takes one that stands elsewhere already.
func (d *drawer) expr(deep int) int {
	if n := len(d.p.Exprs); n > 0 && d.below(4) == 0 {
		if e := d.below(n); d.place[e] <= d.stands && d.calls[e] < d.rank[d.d] {
			return e
		}
	}
	part := func() int { return d.expr(deep - 1) }
	k := d.below(10)
	switch {
	case deep > 0 && k < 2:
		if e, ok := d.call(deep); ok {
			return e
		}
	case deep > 0 && k < 4:
		return d.add(api.Expr{Kind: pick(d, api.ExAdd, api.ExSub, api.ExMul, api.ExDiv), A: part(), B: part()}, 1, -1)
	case deep > 0 && k == 4:
		return d.add(api.Expr{Kind: pick(d, api.ExNeg, api.ExSqrt), A: part()}, 1, -1)
	case deep > 0 && k == 5:
		asked := d.add(api.Expr{Kind: pick(d, api.ExLess, api.ExMost, api.ExSame), A: part(), B: part()}, 1, -1)
		d.place[asked] += 10
		return d.add(api.Expr{Kind: api.ExIf, A: asked, B: part(), C: part()}, 1, -1)
	case deep > 0 && k < 9 && d.stands == 3:
		if k == 6 {
			return d.add(api.Expr{Kind: api.ExPre, A: part()}, 3, -1)
		}
		return d.add(api.Expr{Kind: pick(d, api.ExArrow, api.ExFby), A: part(), B: part()}, 3, -1)
	}
	if d.stands > 1 && d.below(20) < d.named {
		return d.add(api.Expr{Kind: api.ExName, Name: pick(d, everywhere[:]...)}, 2, -1)
	}
	return d.add(api.Expr{Kind: api.ExFix, V: int64(k)}, 1, -1)
}

// program draws a program whose places in the text are all their own, or are few.
func (d *drawer) program(named int) api.Program {
	d.p, d.place, d.calls, d.named = api.Program{}, nil, nil, named
	last, few := 0, d.below(4) == 0
	d.at = func() int {
		last += 1 + d.below(3)
		if few {
			return d.below(30) - 2
		}
		return last
	}
	for _, name := range shuffle(d, strings.Split("g h i j", " "))[:d.below(5)] {
		d.p.Decls = append(d.p.Decls, d.head(pick(d, api.DeFun, api.DeNode, api.DeNode), name))
	}
	d.p.Decls = slices.Insert(d.p.Decls, d.below(len(d.p.Decls)+1), d.head(api.DeHybrid, "m"))
	d.rank = nil
	for i := range d.p.Decls {
		d.rank = append(d.rank, i)
	}
	shuffle(d, d.rank)
	if d.below(2) == 0 { // what no declaration leads to
		d.add(api.Expr{Kind: api.ExName, Name: pick(d, "nobody's", "a", "m")}, 9, 9)
		d.add(api.Expr{Kind: api.ExFby, A: 0, B: 0}, 9, 9)
	}
	for i := range d.p.Decls {
		d.fill(i)
	}
	return d.p
}
