package types

import (
	"slices"
	"strings"

	"astrolabe/api"
)

// The model: the chapter's rows as they stand there, asked of trees by nested calls.

// kindsOf are the kinds of expressions by their names.
var kindsOf = map[string]int{
	"ExFix": 1, "ExBool": 2, "ExName": 3, "ExNeg": 4, "ExNot": 5, "ExAdd": 6, "ExSub": 7, "ExMul": 8, "ExDiv": 9, "ExLess": 10, "ExMost": 11,
	"ExSame": 12, "ExAnd": 13, "ExOr": 14, "ExIf": 15, "ExPre": 16, "ExArrow": 17, "ExFby": 18, "ExCall": 19, "ExIs": 20, "ExSqrt": 21,
}

// What an expression's type is, and what its parts are wanted to be: a part is A, B, C; a type is fix, bool, or a part's.
const (
	typeRows = "ExFix ExNeg ExSqrt ExAdd ExSub ExMul ExDiv: fix; ExBool ExNot ExLess ExMost ExSame ExAnd ExOr ExIs: bool; ExIf: B; ExPre ExArrow ExFby: A"
	wantRows = "ExNeg ExSqrt: A=fix; ExAdd ExSub ExMul ExDiv ExLess ExMost: A=fix B=fix; ExNot: A=bool; ExAnd ExOr: A=bool B=bool; ExIf: A=bool C=B; ExSame ExArrow ExFby: B=A"
	partRows = "ExNeg ExNot ExPre ExSqrt: A; ExAdd ExSub ExMul ExDiv ExLess ExMost ExSame ExAnd ExOr ExArrow ExFby: A B; ExIf: A B C"
)

// rowOf is what rows say of a kind.
func rowOf(rows string, kind int) []string {
	for _, row := range strings.Split(rows, "; ") {
		kinds, says, _ := strings.Cut(row, ": ")
		for _, name := range strings.Fields(kinds) {
			if kindsOf[name] == kind {
				return strings.Fields(says)
			}
		}
	}
	return nil
}

func partOf(x api.Expr, name string) int {
	return map[string]int{"A": x.A, "B": x.B, "C": x.C}[name]
}

func modelName(d api.Decl, name string) int {
	for _, x := range d.Params {
		if x.Name == name {
			return x.Type
		}
	}
	for _, it := range d.Items {
		switch {
		case it.Name != name:
		case it.Kind == api.ItLet || it.Kind == api.ItMem:
			return it.Type
		case it.Kind == api.ItDer:
			return api.TypeFix
		}
	}
	return 0
}

func modelDecl(p api.Program, name string) api.Decl {
	for _, d := range p.Decls {
		if d.Name == name {
			return d
		}
	}
	return api.Decl{}
}

func modelType(p api.Program, d api.Decl, e int) int {
	x := p.Exprs[e]
	switch x.Kind {
	case api.ExName:
		return modelName(d, x.Name)
	case api.ExCall:
		return modelDecl(p, x.Name).Type
	}
	return modelSays(p, d, x, rowOf(typeRows, x.Kind)[0])
}

// modelSays is the type that a row says.
func modelSays(p api.Program, d api.Decl, x api.Expr, says string) int {
	switch says {
	case "fix":
		return 1
	case "bool":
		return 2
	}
	return modelType(p, d, partOf(x, says))
}

// model gathers where faults are.
type model struct {
	p  api.Program
	at []int
}

func (m *model) want(d api.Decl, e, typ int) {
	at := m.p.Exprs[e].At
	if modelType(m.p, d, e) != typ && !slices.Contains(m.at, at) {
		m.at = append(m.at, at)
	}
}

func (m *model) tree(d api.Decl, e int) {
	x := m.p.Exprs[e]
	for _, s := range rowOf(wantRows, x.Kind) {
		part, says, _ := strings.Cut(s, "=")
		m.want(d, partOf(x, part), modelSays(m.p, d, x, says))
	}
	for _, part := range rowOf(partRows, x.Kind) {
		m.tree(d, partOf(x, part))
	}
	for i, part := range x.Args {
		m.want(d, part, modelDecl(m.p, x.Name).Params[i].Type)
		m.tree(d, part)
	}
}

// own asks for one of a declaration's own expressions.
func (m *model) own(d api.Decl, e, typ int) {
	m.want(d, e, typ)
	m.tree(d, e)
}

func (m *model) item(d api.Decl, it api.Item) {
	switch it.Kind {
	case api.ItLet, api.ItMem:
		m.own(d, it.E, it.Type)
	case api.ItDer, api.ItReset:
		m.own(d, it.E, 1)
		m.own(d, it.F, 1)
	case api.ItOn:
		m.own(d, it.E, modelName(d, it.Name))
		m.own(d, it.F, 1)
	case api.ItFrom:
		m.own(d, it.F, 1)
	}
}

// modelFaults are where the faults of a program are, rising.
func modelFaults(p api.Program) []int {
	m := &model{p: p}
	for _, d := range p.Decls {
		for _, it := range d.Items {
			m.item(d, it)
		}
		if d.Kind == api.DeFun || d.Kind == api.DeNode {
			m.own(d, d.E, d.Type)
		}
	}
	slices.Sort(m.at)
	return m.at
}

// drawer draws programs that are right by their names: the same ones each time. Of a thousand expressions some, wild, are of another type than is wanted.
type drawer struct {
	state uint64
	p     api.Program
	wild  int
	at    func() int
	from  int // ahead of it is what no declaration leads to
}

func (d *drawer) below(n int) int {
	d.state = d.state*6364136223846793005 + 1442695040888963407
	return int(d.state>>33) % n
}

func pick[T any](d *drawer, l ...T) T { return l[d.below(len(l))] }

// aType draws a type: now and then one that there isn't.
func (d *drawer) aType() int {
	if d.below(1000) < d.wild/10 {
		return pick(d, 0, 3, -1)
	}
	return 1 + d.below(2)
}

// All declarations have these names, so that an expression may stand in each of them, of another type there.
const allNames = "abcxk"

// decl draws a declaration, of names alone: parameters ahead of items, which are in any order.
func (d *drawer) decl(kind int, name string) api.Decl {
	x := api.Decl{Kind: kind, Name: name, Type: d.aType(), At: d.at()}
	items := []api.Item{{Kind: api.ItMode, Name: "M", States: []string{"A", "B"}}, {Kind: api.ItDer, Name: "x"}, {Kind: api.ItMem, Name: "k", Type: d.aType()}}
	for _, s := range []string{"a", "b", "c"} {
		if d.below(2) == 0 {
			x.Params = append(x.Params, api.Param{Name: s, Type: d.aType()})
			continue
		}
		items = append(items, api.Item{Kind: api.ItLet, Name: s, Type: d.aType()})
	}
	for range d.below(6) {
		items = append(items, pick(d,
			api.Item{Kind: api.ItReset, Name: "x"}, api.Item{Kind: api.ItOn, Name: "k"},
			api.Item{Kind: api.ItFrom, Name: "M", State: "A", Next: "B"}, api.Item{Kind: api.ItOut, Name: "x"}))
	}
	for i := range items {
		k := d.below(i + 1)
		items[i], items[k] = items[k], items[i]
	}
	x.Items = items
	return x
}

// fill draws the expressions of a declaration.
func (d *drawer) fill(x *api.Decl) {
	for i := range x.Items {
		it := &x.Items[i]
		it.At = d.at()
		switch it.Kind {
		case api.ItLet, api.ItMem:
			it.E = d.expr(*x, it.Type, d.below(4))
		case api.ItDer, api.ItReset:
			it.E, it.F = d.expr(*x, 1, d.below(4)), d.expr(*x, 1, d.below(4))
		case api.ItOn:
			it.E, it.F = d.expr(*x, modelName(*x, "k"), d.below(4)), d.expr(*x, 1, d.below(4))
		case api.ItFrom:
			it.F = d.expr(*x, 1, d.below(4))
		}
	}
	if x.Kind != api.DeHybrid {
		x.E = d.expr(*x, x.Type, d.below(5))
	}
}

// leaf draws an expression of a type without parts.
func (d *drawer) leaf(x api.Decl, typ int) api.Expr {
	for range 4 {
		s := string(pick(d, []byte(allNames)...))
		if modelName(x, s) == typ {
			return api.Expr{Kind: api.ExName, Name: s}
		}
	}
	if typ == 1 {
		return api.Expr{Kind: api.ExFix, V: int64(d.below(9))}
	}
	return pick(d, api.Expr{Kind: api.ExBool, V: 1}, api.Expr{Kind: api.ExIs, Name: "M", State: "B"})
}

// whole draws an expression of a type with parts.
func (d *drawer) whole(x api.Decl, typ, deep int) api.Expr {
	part := func(typ int) int { return d.expr(x, typ, deep-1) }
	switch k := d.below(10); {
	case k == 0:
		return api.Expr{Kind: api.ExIf, A: part(2), B: part(typ), C: part(typ)}
	case k == 1:
		return api.Expr{Kind: api.ExPre, A: part(typ)}
	case k == 2:
		return api.Expr{Kind: pick(d, api.ExArrow, api.ExFby), A: part(typ), B: part(typ)}
	case k < 5:
		return d.call(x, typ, deep)
	case typ == 1 && k < 8:
		return api.Expr{Kind: pick(d, api.ExAdd, api.ExSub, api.ExMul, api.ExDiv), A: part(1), B: part(1)}
	case typ == 1:
		return api.Expr{Kind: pick(d, api.ExNeg, api.ExSqrt), A: part(1)}
	case k == 5:
		return api.Expr{Kind: api.ExNot, A: part(2)}
	case k == 6:
		return api.Expr{Kind: pick(d, api.ExAnd, api.ExOr), A: part(2), B: part(2)}
	case k == 7:
		same := d.aType()
		return api.Expr{Kind: api.ExSame, A: part(same), B: part(same)}
	}
	return api.Expr{Kind: pick(d, api.ExLess, api.ExMost), A: part(1), B: part(1)}
}

// call draws a call of a declaration of a type, if there is one.
func (d *drawer) call(x api.Decl, typ, deep int) api.Expr {
	for _, other := range d.p.Decls {
		if other.Type != typ || other.Kind == api.DeHybrid || d.below(2) == 0 {
			continue
		}
		e := api.Expr{Kind: api.ExCall, Name: other.Name}
		for _, param := range other.Params {
			e.Args = append(e.Args, d.expr(x, param.Type, deep-1))
		}
		return e
	}
	return d.leaf(x, typ)
}

// expr draws an expression of a type: a wild one of any type, or one that stands elsewhere already.
func (d *drawer) expr(x api.Decl, typ, deep int) int {
	if d.below(1000) < d.wild {
		typ = 1 + d.below(2)
		if n := len(d.p.Exprs) - d.from; n > 0 && d.below(3) == 0 {
			return d.from + d.below(n)
		}
	}
	e := d.leaf(x, typ)
	if deep > 0 && d.below(3) > 0 {
		e = d.whole(x, typ, deep)
	}
	e.At = d.at()
	d.p.Exprs = append(d.p.Exprs, e)
	return len(d.p.Exprs) - 1
}

// program draws a program whose places are all their own, or are few.
func (d *drawer) program(wild int) api.Program {
	d.p, d.wild = api.Program{}, wild
	last, few := 0, d.below(4) == 0
	d.at = func() int {
		last += 1 + d.below(3)
		if few {
			return d.below(30) - 2
		}
		return last
	}
	for _, name := range []string{"f", "g", "h"}[:d.below(4)] {
		d.p.Decls = append(d.p.Decls, d.decl(api.DeFun+d.below(2), name))
	}
	d.p.Decls = slices.Insert(d.p.Decls, d.below(len(d.p.Decls)+1), d.decl(api.DeHybrid, "m"))
	if d.below(2) == 0 {
		d.p.Exprs = append(d.p.Exprs,
			api.Expr{Kind: api.ExName, Name: pick(d, "nobody's", "M"), At: -9},
			api.Expr{Kind: api.ExCall, Name: pick(d, "nobody's", "f", "m"), At: -9},
			api.Expr{Kind: api.ExNeg, A: pick(d, 0, 1), At: -9})
	}
	d.from = len(d.p.Exprs)
	for i := range d.p.Decls {
		d.fill(&d.p.Decls[i])
	}
	return d.p
}
