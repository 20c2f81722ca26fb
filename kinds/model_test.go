package kinds

import (
	"slices"
	"strings"

	"astrolabe/api"
	"astrolabe/ast"
)

// The model: the chapter's sentences as they stand there, asked of each number of each tree.

// The places of what stands there: a declaration's E, or an item's E or F of one.
const (
	constantRow = "fun.der.F node.der.F hybrid.der.F fun.mem.E node.mem.E hybrid.mem.E"
	smoothRow   = "fun fun.let.E hybrid.let.E fun.der.E node.der.E hybrid.der.E fun.reset.F node.reset.F hybrid.reset.F fun.on.F node.on.F hybrid.on.F fun.from.F node.from.F hybrid.from.F"
	discreteRow = "node node.let.E fun.reset.E node.reset.E hybrid.reset.E fun.on.E node.on.E hybrid.on.E"
)

// root is an own expression of a declaration, and what it is there: fun, or fun.let.E, say.
type root struct {
	e    int
	what string
}

// modelRoots are the roots of a declaration.
func modelRoots(d api.Decl) []root {
	decl := []string{"", "fun", "node", "hybrid"}[d.Kind]
	var l []root
	for _, it := range d.Items {
		item := []string{"", "let", "der", "reset", "mem", "on", "mode", "from", "out"}[it.Kind]
		if strings.Contains("let der reset mem on", item) {
			l = append(l, root{it.E, decl + "." + item + ".E"})
		}
		if strings.Contains("der reset on from", item) {
			l = append(l, root{it.F, decl + "." + item + ".F"})
		}
	}
	if decl != "hybrid" {
		l = append(l, root{d.E, decl})
	}
	return l
}

func modelPlace(what string) int {
	for i, row := range []string{constantRow, smoothRow, discreteRow} {
		if slices.Contains(strings.Fields(row), what) {
			return i + 1
		}
	}
	return 0
}

// keeps tells whether an expression itself is one that an A's tree doesn't have.
func keeps(p api.Program, x api.Expr) bool {
	switch x.Kind {
	case api.ExPre, api.ExArrow, api.ExFby:
		return true
	case api.ExCall:
		return slices.ContainsFunc(p.Decls, func(d api.Decl) bool { return d.Name == x.Name && d.Kind == api.DeNode })
	}
	return false
}

// modelForbids tells whether an expression is a fault where it stands.
func modelForbids(p api.Program, decl, place int, x api.Expr) bool {
	switch {
	case keeps(p, x):
		return place == 1 || place == 2
	case x.Kind == api.ExName:
		return place == 1
	case x.Kind == api.ExIs:
		return place == 1 || decl == api.DeFun || decl == api.DeNode
	}
	return false
}

// modelFaults are where the faults of a program are, rising.
func modelFaults(p api.Program) []int {
	var at []int
	for _, d := range p.Decls {
		for _, r := range modelRoots(d) {
			for _, e := range ast.Tree(p, r.e) {
				if modelForbids(p, d.Kind, modelPlace(r.what), p.Exprs[e]) {
					at = append(at, p.Exprs[e].At)
				}
			}
		}
	}
	slices.Sort(at)
	return slices.Compact(at)
}

func modelSort(p api.Program, e int) int {
	for _, n := range ast.Tree(p, e) {
		if keeps(p, p.Exprs[n]) {
			return 2
		}
	}
	return 1
}

// drawer draws programs that are right by their types: the same ones each time. Of a thousand expressions some, wild, are such as are forbidden where they stand.
type drawer struct {
	state       uint64
	p           api.Program
	types       []int // of Exprs
	wild        int
	at          func() int
	decl, place int // where what is drawn stands
}

func (d *drawer) below(n int) int {
	d.state = d.state*6364136223846793005 + 1442695040888963407
	return int(d.state>>33) % n
}

func pick[T any](d *drawer, l ...T) T { return l[d.below(len(l))] }

// head draws a declaration, of names alone. In each of them all names are of the same types, so that an expression may stand in any.
func (d *drawer) head(kind int, name string) api.Decl {
	x := api.Decl{Kind: kind, Name: name, Type: 1 + d.below(2), At: d.at()}
	if kind != api.DeHybrid && d.below(2) == 0 {
		x.Type = 1
	}
	for i, s := range []string{"a", "b"} {
		if d.below(2) == 0 {
			x.Params = append(x.Params, api.Param{Name: s, Type: 1 + i})
		} else {
			x.Items = append(x.Items, api.Item{Kind: api.ItLet, Name: s, Type: 1 + i})
		}
	}
	x.Items = append(x.Items,
		api.Item{Kind: api.ItMode, Name: "M", States: []string{"A", "B"}}, api.Item{Kind: api.ItDer, Name: "x"},
		api.Item{Kind: api.ItMem, Name: "k", Type: 1}, api.Item{Kind: api.ItMem, Name: "l", Type: 2})
	for range d.below(5) {
		x.Items = append(x.Items, pick(d,
			api.Item{Kind: api.ItReset, Name: "x"}, api.Item{Kind: api.ItOn, Name: "k", Type: 1}, api.Item{Kind: api.ItOn, Name: "l", Type: 2},
			api.Item{Kind: api.ItFrom, Name: "M", State: "A", Next: "B"}, api.Item{Kind: api.ItOut, Name: "x"}))
	}
	for i := range x.Items {
		k := d.below(i + 1)
		x.Items[i], x.Items[k] = x.Items[k], x.Items[i]
	}
	return x
}

// fill draws the expressions of a declaration.
func (d *drawer) fill(x *api.Decl) {
	d.decl = x.Kind
	draw := func(place, typ int) int {
		d.place = place
		return d.expr(typ, d.below(5))
	}
	own := 2
	if x.Kind == api.DeNode {
		own = 3
	}
	for i := range x.Items {
		it := &x.Items[i]
		it.At = d.at()
		switch it.Kind {
		case api.ItLet:
			it.E = draw(own, it.Type)
		case api.ItMem:
			it.E = draw(1, it.Type)
		case api.ItDer:
			it.E, it.F = draw(2, 1), draw(1, 1)
		case api.ItReset, api.ItOn:
			typ := max(it.Type, 1)
			it.E, it.F, it.Type = draw(3, typ), draw(2, 1), 0
		case api.ItFrom:
			it.F = draw(2, 1)
		}
	}
	if x.Kind != api.DeHybrid {
		x.E = draw(own, x.Type)
	}
}

// leaf draws an expression of a type without parts.
func (d *drawer) leaf(typ int) api.Expr {
	if typ == 1 {
		return pick(d, api.Expr{Kind: api.ExFix, V: 7}, api.Expr{Kind: api.ExName, Name: pick(d, "a", "x", "k")})
	}
	return pick(d, api.Expr{Kind: api.ExBool, V: 1}, api.Expr{Kind: api.ExName, Name: pick(d, "b", "l")}, api.Expr{Kind: api.ExIs, Name: "M", State: "B"})
}

// whole draws the kind of an expression of a type with parts, and what those are to be.
func (d *drawer) whole(typ int) (api.Expr, []int) {
	same := 1 + d.below(2)
	switch k := d.below(12); {
	case k < 2:
		return api.Expr{Kind: pick(d, api.ExArrow, api.ExFby)}, []int{typ, typ}
	case k == 2:
		return api.Expr{Kind: api.ExPre}, []int{typ}
	case k == 3:
		return api.Expr{Kind: api.ExIf}, []int{2, typ, typ}
	case k < 7:
		return d.call(typ)
	case typ == 1 && k < 10:
		return api.Expr{Kind: pick(d, api.ExAdd, api.ExSub, api.ExMul, api.ExDiv)}, []int{1, 1}
	case typ == 1:
		return api.Expr{Kind: pick(d, api.ExNeg, api.ExSqrt)}, []int{1}
	case k == 7:
		return api.Expr{Kind: api.ExNot}, []int{2}
	case k == 8:
		return api.Expr{Kind: pick(d, api.ExAnd, api.ExOr)}, []int{2, 2}
	case k == 9:
		return api.Expr{Kind: api.ExSame}, []int{same, same}
	}
	return api.Expr{Kind: pick(d, api.ExLess, api.ExMost)}, []int{1, 1}
}

// call draws a call of a declaration of a type, if there is one.
func (d *drawer) call(typ int) (api.Expr, []int) {
	for _, x := range d.p.Decls {
		if x.Type != typ || x.Kind == api.DeHybrid || d.below(2) == 0 {
			continue
		}
		var parts []int
		for _, param := range x.Params {
			parts = append(parts, param.Type)
		}
		return api.Expr{Kind: api.ExCall, Name: x.Name}, parts
	}
	return d.leaf(typ), nil
}

// expr draws an expression of a type, or takes one that stands elsewhere already.
func (d *drawer) expr(typ, deep int) int {
	wild := d.below(1000) < d.wild
	for range d.below(2) * 2 {
		if n := len(d.p.Exprs); n > 0 {
			if e := d.below(n); d.types[e] == typ && (wild || d.allows(e)) {
				return e
			}
		}
	}
	x, parts := d.leaf(typ), []int(nil)
	for try := 0; try == 0 || try < 20 && !wild && modelForbids(d.p, d.decl, d.place, x); try++ {
		x, parts = d.leaf(typ), nil
		if deep > 0 && d.below(4) > 0 {
			x, parts = d.whole(typ)
		}
	}
	for i, part := range parts {
		e := d.expr(part, deep-1)
		if x.Kind == api.ExCall {
			x.Args = append(x.Args, e)
			continue
		}
		*[]*int{&x.A, &x.B, &x.C}[i] = e
	}
	x.At = d.at()
	d.p.Exprs, d.types = append(d.p.Exprs, x), append(d.types, typ)
	return len(d.p.Exprs) - 1
}

// allows tells whether a tree may stand where what is drawn does.
func (d *drawer) allows(e int) bool {
	return !slices.ContainsFunc(ast.Tree(d.p, e), func(n int) bool { return modelForbids(d.p, d.decl, d.place, d.p.Exprs[n]) })
}

// program draws a program whose places in the text are all their own, or are few.
func (d *drawer) program(wild int) api.Program {
	d.p, d.types, d.wild = api.Program{}, nil, wild
	last, few := 0, d.below(4) == 0
	d.at = func() int {
		last += 1 + d.below(3)
		if few {
			return d.below(30) - 2
		}
		return last
	}
	for _, name := range []string{"f", "g", "h", "i"}[:d.below(5)] {
		d.p.Decls = append(d.p.Decls, d.head(api.DeFun+d.below(2), name))
	}
	d.p.Decls = slices.Insert(d.p.Decls, d.below(len(d.p.Decls)+1), d.head(api.DeHybrid, "m"))
	if d.below(2) == 0 { // what no declaration leads to
		d.p.Exprs = append(d.p.Exprs,
			api.Expr{Kind: api.ExName, Name: pick(d, "nobody's", "M"), At: -9},
			api.Expr{Kind: api.ExCall, Name: pick(d, "nobody's", "f", "m"), At: -9},
			api.Expr{Kind: api.ExPre, A: pick(d, 0, 1), At: -9})
		d.types = make([]int, len(d.p.Exprs))
	}
	for i := range d.p.Decls {
		d.fill(&d.p.Decls[i])
	}
	return d.p
}
