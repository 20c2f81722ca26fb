package names

import (
	"slices"
	"strings"

	"astrolabe/api"
)

// The model: the chapter's sentences, asked of all that there is, again and again.

// Which of E and F items have (E, F), and which declarations have an E.
var itemHas = map[int]string{1: "E", 2: "EF", 3: "EF", 4: "E", 5: "EF", 6: "", 7: "F", 8: ""}
var declHas = map[int]string{1: "E", 2: "E", 3: ""}

// The sorts of what items make.
var makes = map[int]int{api.ItLet: api.VarLet, api.ItDer: api.VarDer, api.ItMem: api.VarMem, api.ItMode: api.VarMode}

func modelVars(d api.Decl) []api.Var {
	var l []api.Var
	for i, x := range d.Params {
		l = append(l, api.Var{Name: x.Name, Sort: api.VarParam, Type: x.Type, Index: i})
	}
	for i, it := range d.Items {
		typ := map[int]int{api.ItLet: it.Type, api.ItDer: api.TypeFix, api.ItMem: it.Type}[it.Kind]
		if sort, ok := makes[it.Kind]; ok {
			l = append(l, api.Var{Name: it.Name, Sort: sort, Type: typ, Index: i})
		}
	}
	return l
}

func modelFind(d api.Decl, name string) (api.Var, bool) {
	l := modelVars(d)
	slices.Reverse(l)
	var found api.Var
	for _, v := range l {
		if v.Name == name {
			found = v
		}
	}
	return found, found.Sort != 0
}

func modelDecl(p api.Program, name string) int {
	found := -1
	for i := len(p.Decls) - 1; i >= 0; i-- {
		if p.Decls[i].Name == name {
			found = i
		}
	}
	return found
}

func modelRoots(d api.Decl) []int {
	var l []int
	for _, it := range d.Items {
		if strings.Contains(itemHas[it.Kind], "E") {
			l = append(l, it.E)
		}
		if strings.Contains(itemHas[it.Kind], "F") {
			l = append(l, it.F)
		}
	}
	if declHas[d.Kind] != "" {
		l = append(l, d.E)
	}
	return l
}

// modelTree is an expression's tree.
func modelTree(p api.Program, e int) []api.Expr {
	x := p.Exprs[e]
	l := []api.Expr{x}
	parts := map[bool][]int{true: x.Args}[x.Kind == api.ExCall]
	switch x.Kind {
	case 4, 5, 16, 21:
		parts = []int{x.A}
	case 6, 7, 8, 9, 10, 11, 12, 13, 14, 17, 18:
		parts = []int{x.A, x.B}
	case 15:
		parts = []int{x.A, x.B, x.C}
	}
	for _, part := range parts {
		l = append(l, modelTree(p, part)...)
	}
	return l
}

func twice(l []string) bool {
	for i := range l {
		if slices.Contains(l[i+1:], l[i]) {
			return true
		}
	}
	return false
}

func (m *model) fault(wrong bool, at int) {
	if wrong && !slices.Contains(m.at, at) {
		m.at = append(m.at, at)
	}
}

// model gathers where faults are.
type model struct{ at []int }

// states are the states of a name's mode, and whether it is one.
func states(d api.Decl, name string) ([]string, bool) {
	v, _ := modelFind(d, name)
	if v.Sort != api.VarMode {
		return nil, false
	}
	return d.Items[v.Index].States, true
}

func sortOf(d api.Decl, name string) int {
	v, _ := modelFind(d, name)
	return v.Sort
}

func (m *model) item(d api.Decl, i int) {
	it := d.Items[i]
	of, isMode := states(d, it.Name)
	sort := sortOf(d, it.Name)
	switch it.Kind {
	case api.ItLet, api.ItDer, api.ItMem, api.ItMode:
		ahead := d
		ahead.Items = d.Items[:i]
		_, taken := modelFind(ahead, it.Name)
		m.fault(taken, it.At)
		m.fault(it.Kind == api.ItMode && twice(it.States), it.At)
	case api.ItReset:
		m.fault(sort != api.VarDer, it.At)
	case api.ItOn:
		m.fault(sort != api.VarMem, it.At)
	case api.ItFrom:
		m.fault(!isMode, it.At)
		m.fault(!slices.Contains(of, it.State), it.At)
		m.fault(!slices.Contains(of, it.Next), it.At)
	case api.ItOut:
		m.fault(sort == 0 || sort == api.VarParam || sort == api.VarMode, it.At)
	}
}

func (m *model) expr(p api.Program, d api.Decl, x api.Expr) {
	switch x.Kind {
	case api.ExName:
		sort := sortOf(d, x.Name)
		m.fault(sort == 0 || sort == api.VarMode, x.At)
	case api.ExIs:
		of, _ := states(d, x.Name)
		m.fault(!slices.Contains(of, x.State), x.At)
	case api.ExCall:
		called := modelDecl(p, x.Name)
		m.fault(called < 0, x.At)
		m.fault(called >= 0 && p.Decls[called].Kind == api.DeHybrid, x.At)
		m.fault(called >= 0 && len(p.Decls[called].Params) != len(x.Args), x.At)
	}
}

// modelFaults are where the faults of a program that may be are, rising.
func modelFaults(p api.Program) []int {
	m := &model{}
	hybrids := 0
	for i, d := range p.Decls {
		if d.Kind == api.DeHybrid {
			hybrids++
			m.fault(hybrids > 1, d.At)
		}
		m.fault(modelDecl(p, d.Name) < i, d.At)
		var names []string
		for _, x := range d.Params {
			names = append(names, x.Name)
		}
		m.fault(twice(names), d.At)
		for i := range d.Items {
			m.item(d, i)
		}
		for _, e := range modelRoots(d) {
			for _, x := range modelTree(p, e) {
				m.expr(p, d, x)
			}
		}
	}
	m.fault(hybrids == 0, 0)
	slices.Sort(m.at)
	return m.at
}

// drawer draws programs: the same ones each time. A wild one has names that are nothing more often.
type drawer struct {
	state uint64
	p     api.Program
	wild  int
	at    func() int
}

func (d *drawer) below(n int) int {
	d.state = d.state*6364136223846793005 + 1442695040888963407
	return int(d.state>>33) % n
}

func pick[T any](d *drawer, l ...T) T { return l[d.below(len(l))] }

// one is a name of these: of a wild program any other one now and then.
func (d *drawer) one(l []string) string {
	if len(l) == 0 || d.below(1000) < d.wild {
		return pick(d, "a", "b", "c", "M", "N", "A", "B", "f", "g", "m", "é")
	}
	return pick(d, l...)
}

// named are the names of a declaration of some sorts.
func named(x api.Decl, sorts ...int) []string {
	var l []string
	for _, v := range modelVars(x) {
		if slices.Contains(sorts, v.Sort) {
			l = append(l, v.Name)
		}
	}
	return l
}

// leaf draws an expression without parts, as if it stood in a declaration.
func (d *drawer) leaf(x api.Decl) api.Expr {
	values := named(x, api.VarParam, api.VarLet, api.VarDer, api.VarMem)
	modes := named(x, api.VarMode)
	switch k := d.below(8); {
	case k < 4 && (len(values) > 0 || d.wild > 0):
		return api.Expr{Kind: api.ExName, Name: d.one(values)}
	case k == 4 && (len(modes) > 0 || d.wild > 0):
		mode := d.one(modes)
		of, _ := states(x, mode)
		return api.Expr{Kind: api.ExIs, Name: mode, State: d.one(of)}
	case k == 5:
		return api.Expr{Kind: api.ExBool, V: int64(d.below(2))}
	}
	return api.Expr{Kind: api.ExFix, V: int64(d.below(9))}
}

// call draws a call of a declaration ahead.
func (d *drawer) call(x api.Decl, deep int) api.Expr {
	var called []api.Decl
	for _, other := range d.p.Decls {
		if other.Kind != api.DeHybrid {
			called = append(called, other)
		}
	}
	if len(called) == 0 && d.wild == 0 {
		return d.leaf(x)
	}
	e := api.Expr{Kind: api.ExCall}
	count := d.below(3)
	if len(called) > 0 {
		other := pick(d, called...)
		e.Name, count = d.one([]string{other.Name}), len(other.Params)
		if d.below(1000) < d.wild {
			count = d.below(3)
		}
	} else {
		e.Name = d.one(nil)
	}
	for range count {
		e.Args = append(e.Args, d.expr(x, deep-1))
	}
	return e
}

func (d *drawer) expr(x api.Decl, deep int) int {
	e := d.leaf(x)
	if len(d.p.Exprs) > 0 && d.below(12) == 0 && d.wild > 0 {
		return d.below(len(d.p.Exprs))
	}
	if deep > 1 {
		switch d.below(8) {
		case 0, 1:
			e = api.Expr{Kind: pick(d, 6, 7, 8, 9, 10, 11, 12, 13, 14, 17, 18), A: d.expr(x, deep-1)}
			e.B = d.expr(x, deep-1)
		case 2:
			e = api.Expr{Kind: pick(d, 4, 5, 16, 21), A: d.expr(x, deep-1)}
		case 3:
			e = api.Expr{Kind: api.ExIf, A: d.expr(x, deep-1)}
			e.B = d.expr(x, deep-1)
			e.C = d.expr(x, deep-1)
		case 4, 5:
			e = d.call(x, deep)
		}
	}
	e.At = d.at()
	d.p.Exprs = append(d.p.Exprs, e)
	return len(d.p.Exprs) - 1
}

// item draws an item of a kind whose names are what they have to be, if there are such, and the program isn't wild.
func (d *drawer) item(x api.Decl, free []string) (api.Item, bool) {
	it := api.Item{Kind: 1 + d.below(8), At: d.at()}
	of := map[int][]string{
		api.ItReset: named(x, api.VarDer), api.ItOn: named(x, api.VarMem), api.ItFrom: named(x, api.VarMode),
		api.ItOut: named(x, api.VarLet, api.VarDer, api.VarMem),
	}[it.Kind]
	switch it.Kind {
	case api.ItLet, api.ItDer, api.ItMem, api.ItMode:
		of = free
		it.Type = map[bool]int{true: 1 + d.below(2)}[it.Kind == api.ItLet || it.Kind == api.ItMem]
	}
	if len(of) == 0 && d.wild == 0 {
		return it, false
	}
	it.Name = d.one(of)
	if it.Kind == api.ItFrom {
		l, _ := states(x, it.Name)
		if len(l) == 0 && d.wild == 0 {
			return it, false
		}
		it.State, it.Next = d.one(l), d.one(l)
	}
	if it.Kind == api.ItMode {
		l := []string{"A", "B", "a", "M"}
		for range d.below(4) {
			s := d.one(l)
			it.States = append(it.States, s)
			l = slices.DeleteFunc(l, func(x string) bool { return x == s })
		}
	}
	return it, true
}

func without(l []string, name string) []string {
	return slices.DeleteFunc(l, func(s string) bool { return s == name })
}

// decl draws a declaration: its names first, its expressions when all its names are there.
func (d *drawer) decl(kind int, name string) api.Decl {
	x := api.Decl{Kind: kind, Name: name, At: d.at()}
	free := []string{"a", "b", "c", "M", "N", "x", "y"}
	for range d.below(3) {
		s := d.one(free)
		free = without(free, s)
		x.Params = append(x.Params, api.Param{Name: s, Type: 1 + d.below(2)})
	}
	for range d.below(9) {
		if it, ok := d.item(x, free); ok {
			free = without(free, it.Name)
			x.Items = append(x.Items, it)
		}
	}
	for i := range x.Items {
		d.shuffle(x.Items[:i+1])
	}
	for i := range x.Items {
		it := &x.Items[i]
		if strings.Contains(itemHas[it.Kind], "E") {
			it.E = d.expr(x, 1+d.below(4))
		}
		if strings.Contains(itemHas[it.Kind], "F") {
			it.F = d.expr(x, 1+d.below(4))
		}
	}
	if declHas[kind] != "" {
		x.E, x.Type = d.expr(x, 1+d.below(5)), 1+d.below(2)
	}
	return x
}

func (d *drawer) shuffle(l []api.Item) {
	i := d.below(len(l))
	l[i], l[len(l)-1] = l[len(l)-1], l[i]
}

// program draws a program that may be, whose places are all their own, or are few.
func (d *drawer) program(wild int) api.Program {
	d.p, d.wild = api.Program{}, wild
	last, few := 0, d.below(4) == 0
	d.at = func() int {
		last += 1 + d.below(3)
		if few {
			return d.below(9) - 2
		}
		return last
	}
	free := []string{"f", "g", "h", "a", "M"}
	count := 1 + d.below(4)
	for i := range count {
		kind := api.DeFun + d.below(2)
		if i == count-1 || d.below(1000) < wild {
			kind = api.DeHybrid
		}
		if d.below(1000) < wild/3 {
			kind = api.DeFun + d.below(3)
		}
		name := d.one(free)
		free = without(free, name)
		x := d.decl(kind, name)
		d.p.Decls = append(d.p.Decls, x)
	}
	if d.below(2) == 0 {
		d.p.Exprs = append(d.p.Exprs, api.Expr{Kind: api.ExName, Name: "nobody's", At: -9})
	}
	return d.p
}
