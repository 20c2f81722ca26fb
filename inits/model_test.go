package inits

import (
	"slices"
	"strings"

	"astrolabe/api"
	"astrolabe/ast"
	"astrolabe/names"
)

// The model: the chapter's sentences as they stand there, asked of each number of each tree.

// modelLet is the number of a let's item, -1 if a name is none.
func modelLet(p api.Program, d int, name string) int {
	return slices.IndexFunc(p.Decls[d].Items, func(it api.Item) bool { return it.Kind == api.ItLet && it.Name == name })
}

func modelIs(p api.Program, d, e int) bool {
	x := p.Exprs[e]
	switch x.Kind {
	case api.ExPre:
		return true
	case api.ExArrow:
		return modelIs(p, d, x.A)
	case api.ExFby, api.ExCall:
		return false
	case api.ExName:
		let := modelLet(p, d, x.Name)
		return let >= 0 && modelIs(p, d, p.Decls[d].Items[let].E)
	}
	return slices.ContainsFunc(ast.Parts(x), func(part int) bool { return modelIs(p, d, part) })
}

func modelLate(p api.Program, d int) []int {
	var l []int
	for i, it := range p.Decls[d].Items {
		if it.Kind == api.ItLet && modelIs(p, d, it.E) {
			l = append(l, i)
		}
	}
	return l
}

// modelTrees are the numbers of all that stands in a declaration's trees, rising.
func modelTrees(p api.Program, d int) []int {
	l := slices.Clone(names.Roots(p, d))
	for i := 0; i < len(l); i++ {
		for _, part := range ast.Parts(p.Exprs[l[i]]) {
			if !slices.Contains(l, part) {
				l = append(l, part)
			}
		}
	}
	slices.Sort(l)
	return slices.Compact(l)
}

// modelInTime are the numbers of what mustn't be late in a declaration.
func modelInTime(p api.Program, d int) []int {
	var l []int
	for _, e := range modelTrees(p, d) {
		x := p.Exprs[e]
		switch x.Kind {
		case api.ExPre:
			l = append(l, x.A)
		case api.ExFby:
			l = append(l, x.A, x.B)
		case api.ExCall:
			l = append(l, x.Args...)
		}
	}
	for _, it := range p.Decls[d].Items {
		if it.Kind == api.ItReset || it.Kind == api.ItOn {
			l = append(l, it.E)
		}
	}
	if p.Decls[d].Kind == api.DeNode {
		l = append(l, p.Decls[d].E)
	}
	return l
}

// modelFaults are where a program's faults are, rising.
func modelFaults(p api.Program) []int {
	var at []int
	for d := range p.Decls {
		for _, e := range modelInTime(p, d) {
			if modelIs(p, d, e) {
				at = append(at, p.Exprs[e].At)
			}
		}
	}
	slices.Sort(at)
	return slices.Compact(at)
}

// asked is an expression of a declaration, at a step.
type asked struct{ d, e, step int }

// there tells whether an expression has a value at a step of its own, from 0 on, as it is evaluated: all parameters have theirs.
func there(p api.Program, known map[asked]bool, a asked) bool {
	if ok, met := known[a]; met {
		return ok
	}
	x := p.Exprs[a.e]
	of := func(e, step int) bool { return there(p, known, asked{a.d, e, step}) }
	all := func(l []int) bool {
		return !slices.ContainsFunc(l, func(e int) bool { return !of(e, a.step) })
	}
	ok := true
	switch x.Kind {
	case api.ExPre:
		ok = a.step > 0 && of(x.A, a.step-1)
	case api.ExArrow, api.ExFby:
		switch {
		case a.step == 0:
			ok = of(x.A, 0)
		case x.Kind == api.ExFby:
			ok = of(x.B, a.step-1)
		default:
			ok = of(x.B, a.step)
		}
	case api.ExName:
		if let := modelLet(p, a.d, x.Name); let >= 0 {
			ok = of(p.Decls[a.d].Items[let].E, a.step)
		}
	case api.ExCall:
		called := names.Decl(p, x.Name)
		ok = all(x.Args) && there(p, known, asked{called, p.Decls[called].E, a.step})
	default:
		ok = all(ast.Parts(x))
	}
	known[a] = ok
	return ok
}

// drawer draws programs that are right by their causes: the same ones each time. Declarations have ranks, and call what is lower; lets have ranks by their names, the same ones in all declarations, and ask at once for what is lower.
type drawer struct {
	state  uint64
	p      api.Program
	rank   []int          // of Decls
	let    map[string]int // the ranks of lets by their names
	drawn  []drawn        // beside Exprs
	late   int            // of twenty leaves that may be so many are late
	at     func() int
	d      int // the declaration that is drawn
	stands int // the place where what is drawn stands
}

// drawn is what an expression is: the least place where it may stand; whether it is a bool; the highest rank that its tree calls; the highest one of a let for which it asks at once.
type drawn struct {
	place, calls, asks int
	isBool             bool
}

// anyLet is above the ranks of all lets.
const anyLet = 99

func (d *drawer) below(n int) int {
	d.state = d.state*6364136223846793005 + 1442695040888963407
	return int(d.state>>33) % n
}

func pick[T any](d *drawer, l ...T) T { return l[d.below(len(l))] }

// shuffle puts a list in any order.
func shuffle[T any](d *drawer, l []T) []T {
	for i := range l {
		k := d.below(i + 1)
		l[i], l[k] = l[k], l[i]
	}
	return l
}

// The names that all declarations have, so that an expression may stand in any: the first ones are parameters or lets.
var everywhere = [...]string{"a", "b", "c", "d", "e", "f", "k", "x"}

// head draws a declaration, of names alone.
func (d *drawer) head(kind int, name string) api.Decl {
	x := api.Decl{Kind: kind, Name: name, At: d.at()}
	if kind != api.DeHybrid {
		x.Type = 1
	}
	for i, s := range everywhere[:6] {
		if i < 2 && d.below(2) == 0 {
			x.Params = append(x.Params, api.Param{Name: s, Type: 1})
		} else {
			x.Items = append(x.Items, api.Item{Kind: api.ItLet, Name: s, Type: 1})
		}
	}
	x.Items = append(x.Items, api.Item{Kind: api.ItMode, Name: "M", States: []string{"A"}}, api.Item{Kind: api.ItMem, Name: "k", Type: 1}, api.Item{Kind: api.ItDer, Name: "x"})
	for range d.below(3) {
		x.Items = append(x.Items, pick(d, api.Item{Kind: api.ItReset, Name: "x"}, api.Item{Kind: api.ItOn, Name: "k"}, api.Item{Kind: api.ItFrom, Name: "M", State: "A", Next: "A"}, api.Item{Kind: api.ItOut, Name: "x"}))
	}
	shuffle(d, x.Items)
	return x
}

// fill draws the expressions of the declaration i.
func (d *drawer) fill(i int) {
	x := &d.p.Decls[i]
	d.d = i
	draw := func(place, limit int) int {
		d.stands = place
		return d.expr(d.below(4), limit)
	}
	own := 2
	if x.Kind == api.DeNode {
		own = 3
	}
	for k := range x.Items {
		it := &x.Items[k]
		it.At = d.at()
		switch it.Kind {
		case api.ItLet:
			it.E = draw(own, d.let[it.Name])
		case api.ItMem:
			it.E = draw(1, anyLet)
		case api.ItDer:
			it.E, it.F = draw(2, anyLet), draw(1, anyLet)
		case api.ItReset, api.ItOn:
			it.E, it.F = draw(3, anyLet), draw(2, anyLet)
		case api.ItFrom:
			it.F = draw(2, anyLet)
		}
	}
	if x.Kind != api.DeHybrid {
		x.E = draw(own, anyLet)
	}
}

// add puts an expression behind the others.
func (d *drawer) add(x api.Expr, is drawn) int {
	for i, part := range ast.Parts(x) {
		of := d.drawn[part]
		is.place, is.calls = max(is.place, of.place), max(is.calls, of.calls)
		if x.Kind != api.ExPre && (x.Kind != api.ExFby || i == 0) {
			is.asks = max(is.asks, of.asks)
		}
	}
	x.At = d.at()
	d.p.Exprs, d.drawn = append(d.p.Exprs, x), append(d.drawn, is)
	return len(d.p.Exprs) - 1
}

// simple is what has no place, calls and lets of its own.
func simple(place int) drawn { return drawn{place, -1, -1, false} }

// call draws a call, if it finds one that may be.
func (d *drawer) call(deep, limit int) (int, bool) {
	for range 5 {
		called := d.below(len(d.p.Decls))
		x := d.p.Decls[called]
		if x.Kind == api.DeHybrid || x.Kind == api.DeNode && d.stands < 3 || d.rank[called] >= d.rank[d.d] {
			continue
		}
		e := api.Expr{Kind: api.ExCall, Name: x.Name}
		for range x.Params {
			e.Args = append(e.Args, d.expr(deep-1, limit))
		}
		is := simple(map[int]int{api.DeFun: 1, api.DeNode: 3}[x.Kind])
		is.calls = d.rank[called]
		return d.add(e, is), true
	}
	return 0, false
}

// expr draws a fix, or takes one that stands elsewhere already; it asks at once for lets below a limit alone.
func (d *drawer) expr(deep, limit int) int {
	if n := len(d.p.Exprs); n > 0 && d.below(4) == 0 {
		e := d.below(n)
		if is := d.drawn[e]; !is.isBool && is.place <= d.stands && is.calls < d.rank[d.d] && is.asks < limit {
			return e
		}
	}
	part := func() int { return d.expr(deep-1, limit) }
	k := d.below(10)
	switch {
	case deep > 0 && k < 2:
		if e, ok := d.call(deep, limit); ok {
			return e
		}
	case deep > 0 && k < 4:
		return d.add(api.Expr{Kind: pick(d, api.ExAdd, api.ExSub, api.ExMul, api.ExDiv), A: part(), B: part()}, simple(1))
	case deep > 0 && k == 4:
		return d.add(api.Expr{Kind: pick(d, api.ExNeg, api.ExSqrt), A: part()}, simple(1))
	case deep > 0 && k == 5:
		asked := d.add(api.Expr{Kind: pick(d, api.ExLess, api.ExMost, api.ExSame), A: part(), B: part()}, simple(1))
		d.drawn[asked].isBool = true
		return d.add(api.Expr{Kind: api.ExIf, A: asked, B: part(), C: part()}, simple(1))
	case deep > 0 && k < 9 && d.stands == 3:
		return d.stream(deep, limit)
	}
	return d.leaf(k, limit)
}

// stream draws what has a memory.
func (d *drawer) stream(deep, limit int) int {
	now := func() int { return d.expr(deep-1, limit) }
	then := func() int { return d.expr(deep-1, anyLet) }
	switch d.below(4) {
	case 0:
		return d.add(api.Expr{Kind: api.ExFby, A: now(), B: then()}, simple(3))
	case 1:
		return d.add(api.Expr{Kind: api.ExArrow, A: now(), B: now()}, simple(3))
	}
	late := d.add(api.Expr{Kind: api.ExPre, A: then()}, simple(3))
	if d.below(20) < d.late {
		return late
	}
	return d.add(api.Expr{Kind: api.ExArrow, A: now(), B: late}, simple(3))
}

// leaf draws a name, or a number; now and then a pre of one.
func (d *drawer) leaf(k, limit int) int {
	e := 0
	name := pick(d, everywhere[:]...)
	rank, isLet := d.let[name]
	switch {
	case d.stands > 1 && k < 7 && !isLet:
		e = d.add(api.Expr{Kind: api.ExName, Name: name}, simple(2))
	case d.stands > 1 && k < 7 && rank < limit:
		e = d.add(api.Expr{Kind: api.ExName, Name: name}, drawn{2, -1, rank, false})
	default:
		e = d.add(api.Expr{Kind: api.ExFix, V: int64(k)}, simple(1))
	}
	if d.stands == 3 && d.below(60) < d.late {
		return d.add(api.Expr{Kind: api.ExPre, A: e}, simple(3))
	}
	return e
}

// program draws a program whose places in the text are all their own, or are few.
func (d *drawer) program(late int) api.Program {
	d.p, d.drawn, d.late = api.Program{}, nil, late
	last, few := 0, d.below(4) == 0
	d.at = func() int {
		last += 1 + d.below(3)
		if few {
			return d.below(30) - 2
		}
		return last
	}
	d.let = map[string]int{}
	for i, s := range shuffle(d, slices.Clone(everywhere[:6])) {
		d.let[s] = i
	}
	for _, name := range shuffle(d, strings.Split("g h i j", " "))[:d.below(5)] {
		d.p.Decls = append(d.p.Decls, d.head(pick(d, api.DeFun, api.DeNode, api.DeNode, api.DeNode), name))
	}
	d.p.Decls = slices.Insert(d.p.Decls, d.below(len(d.p.Decls)+1), d.head(api.DeHybrid, "m"))
	d.rank = nil
	for i := range d.p.Decls {
		d.rank = append(d.rank, i)
	}
	shuffle(d, d.rank)
	if d.below(2) == 0 { // what no declaration leads to
		none := drawn{9, anyLet, anyLet, true}
		d.add(api.Expr{Kind: api.ExName, Name: pick(d, "nobody's", "a", "m")}, none)
		d.add(api.Expr{Kind: pick(d, api.ExFby, api.ExArrow, api.ExAdd), A: 0, B: 0}, none)
		d.add(api.Expr{Kind: api.ExPre, A: 1}, none)
		d.add(api.Expr{Kind: pick(d, api.ExFby, api.ExArrow, api.ExAdd), A: 0, B: 2}, none)
	}
	for i := range d.p.Decls {
		d.fill(i)
	}
	return d.p
}
