package kinds

import (
	"math"
	"reflect"
	"runtime/debug"
	"slices"
	"strconv"
	"strings"
	"testing"
	"unsafe"

	"astrolabe/api"
	"astrolabe/names"
	"astrolabe/parse"
	"astrolabe/types"
)

func read(t *testing.T, s string) api.Program {
	t.Helper()
	p, fault := parse.Parse(s)
	if fault.Code != api.OK {
		t.Fatalf("%q: %v", s, fault)
	}
	return p
}

// faultsAt are faults of kinds at these places.
func faultsAt(l []int) []api.Fault {
	var faults []api.Fault
	for _, at := range l {
		faults = append(faults, api.Fault{Code: api.ErrKind, At: at})
	}
	return faults
}

// checkFaults asks for a program's faults, and whether it is right.
func checkFaults(t *testing.T, what string, p api.Program, want ...int) {
	t.Helper()
	if !types.Right(p) {
		t.Fatalf("%s: faults of names %v, of types %v", what, names.Faults(p), types.Faults(p))
	}
	if got := Faults(p); !slices.Equal(got, faultsAt(want)) {
		t.Errorf("%s: faults %v, wanted at %v", what, got, want)
	}
	if Right(p) != (len(want) == 0) {
		t.Errorf("%s: Right: %v", what, Right(p))
	}
}

// checkMarked asks for the faults of a text: each stands behind a mark !, which is taken out.
func checkMarked(t *testing.T, marked string) {
	t.Helper()
	var want []int
	pieces := strings.Split(marked, "!")
	s := pieces[0]
	for _, piece := range pieces[1:] {
		want = append(want, len(s))
		s += piece
	}
	checkFaults(t, s, read(t, s), want...)
}

// Two functions, a node of each type, and a hybrid, of what there is of each sort.
const (
	head = "fun f(a: fix): fix = a; fun h(a: bool): bool = a; node g(a: fix): fix { return a; } node n(): bool { return true; } hybrid m(u: fix, w: bool) { "
	tail = " let v: fix = 1; let o: bool = true; der x = 1 init 0; mem k: fix init 1; mem l: bool init true; mode M {A, B}; }"
)

// Where a fix, and a bool, stands in a hybrid, by places.
var fixPlaces = [...][]string{
	constant: {"der z = 1 init $;", "mem z: fix init $;"},
	smooth:   {"let z: fix = $;", "der z = $ init 1;", "reset x on $ = 1;", "on $ set k = 1;", "on $ set l = true;", "from M.A on $ goto B;"},
	discrete: {"reset x on 1 = $;", "on 1 set k = $;"},
}

var boolPlaces = [...][]string{
	constant: {"mem z: bool init $;"},
	smooth:   {"let z: bool = $;"},
	discrete: {"on 1 set l = $;"},
}

// checkPlaces asks for the faults of an expression in each place of some: what the place forbids of it is marked by these marks, the others are left out.
func checkPlaces(t *testing.T, expr string, places [4][]string) {
	t.Helper()
	for place, l := range places {
		marked := expr
		if place == discrete {
			marked = strings.ReplaceAll(marked, "!", "")
		}
		if place != constant {
			marked = strings.ReplaceAll(marked, "?", "")
		}
		for _, item := range l {
			checkMarked(t, head+strings.ReplaceAll(strings.Replace(item, "$", marked, 1), "?", "!")+tail)
		}
	}
}

// What a constant and a smooth place forbid (marked !), and what a constant one alone does (marked ?), of each kind of expressions; a hybrid's discrete places forbid nothing.
func TestForbiddenFix(t *testing.T) { // P9.1
	for _, s := range []string{
		"1", "?u", "?v", "?x", "?k", "-1", "sqrt ?u", "1 + 2", "1 - ?u", "?u * 2", "?x / ?k", "if true then 1 else 2", "if ?w then ?u else ?v",
		"if 1 < 2 then 1 else 2", "f(1)", "f(?u)", "f(f(1 + ?k))", "!pre 1", "!pre ?u", "1 !-> 2", "?u !-> ?v", "1 !fby 2", "?u !fby ?k", "!g(1)", "!g(?u)",
		"if !n() then 1 else 2", "if ?M is A then 1 else 2", "if h(?o) then 1 else 2", "if h(!n()) then 1 else 2",
	} {
		checkPlaces(t, s, fixPlaces)
	}
}

func TestForbiddenBool(t *testing.T) { // P9.1
	for _, s := range []string{
		"true", "false", "?w", "?o", "?l", "?M is A", "?M is B", "not true", "not ?w", "1 < 2", "?u < 2", "1 <= ?x", "1 == 2", "?w == true",
		"true and false", "?w and ?o", "true or ?l", "h(true)", "h(?w)", "!pre true", "!pre ?w", "true !-> false", "true !fby ?w", "!n()",
	} {
		checkPlaces(t, s, boolPlaces)
	}
}

// What is forbidden is so at whatever depth, in each part, behind what is forbidden itself, too.
func TestForbiddenDeep(t *testing.T) { // P9.1
	for _, s := range []string{
		"- sqrt -!pre ?u", "!pre !pre !pre ?u", "(1 !-> ?u) + (?k !fby 2)", "1 !fby (2 !-> !pre ?u)", "?u !-> ?x !fby 1", "(?u !fby 1) !fby ?x",
		"if !pre ?w then !pre ?u else !pre ?x", "if ?M is A then f(!g(?u)) else !g(f(?u))", "!g(!g(!pre 1))", "f(?u !-> ?v)",
		"1 + 2 * (3 - 4 / !pre 5)", "if not (true and (false or ?M is B)) then 1 else ?k",
	} {
		checkPlaces(t, s, fixPlaces)
	}
	for _, s := range []string{"not (!pre ?u < 1)", "?M is A == (!n() or ?M is B)", "(1 !fby 2) <= 3 and true", "h(h(!pre ?w))"} {
		checkPlaces(t, s, boolPlaces)
	}
}

// In a fun all is smooth, in a node discrete; what a declaration has in itself is no fault where it is called.
func TestDeclarations(t *testing.T) { // P9.1
	for _, s := range []string{
		"fun f(a: fix): fix = a + 1; hybrid m() { }",
		"fun f(a: fix): fix = !pre a; hybrid m() { }",
		"fun f(a: fix): fix = a !-> !pre a !fby 1; hybrid m() { }",
		"fun f(a: fix): fix = !g(a); node g(a: fix): fix { return a; } hybrid m() { }",
		"fun f(a: fix): fix = -h(a); fun h(a: fix): fix = !pre a; hybrid m() { let z: fix = f(1); mem k: fix init h(2); }",
		"node g(a: fix): fix { return pre a; } hybrid m() { }",
		"node g(a: fix): fix { let b: fix = a -> pre c; let c: fix = b fby g(a); return g(f(c)); } fun f(a: fix): fix = a; hybrid m() { }",
		"hybrid m(u: fix) { der x = !pre x init 0; }",
		"hybrid m(u: fix) { der x = !g(u) init !u; out x; } node g(a: fix): fix { return a; }",
		"node g(): fix { return h(); } node h(): fix { return f(); } fun f(): fix = 1; hybrid m() { der x = f() init f(); let z: fix = !g() + !h(); }",
		"node u(): fix { return 1; } node n(): bool { return true; } fun f(u: fix): fix = u; hybrid m(u: fix) { let z: fix = f(u); let y: fix = !u(); mode n {A}; let o: bool = n is A; let q: bool = !n(); mem k: fix init !u; }",
		"hybrid m() { mode M {A, B}; mem b: bool init !M is A; let c: bool = M is B; on 1 set b = M is A; }",
	} {
		checkMarked(t, s)
	}
}

// Places of all that a text may have.
func TestPlaces(t *testing.T) { // P9.2
	p := read(t, "fun f(a: fix): fix = a; node g(a: fix): fix { let b: fix = a; let c: fix = b; return c; } node h(): fix { return 1; } "+
		"hybrid m(u: fix) { der x = f(u) init 1; out x; mem k: fix init 2; mode M {A, B}; let v: fix = u; reset x on v = u; on v set k = u; from M.A on x goto B; let w: fix = 1; }")
	for d, want := range [][]int{{2}, {3, 3, 3}, {3}, {2, 1, 1, 2, 3, 2, 3, 2, 2, 2}} {
		if got := Places(p, d); !slices.Equal(got, want) {
			t.Errorf("Places of %d: %v, wanted %v", d, got, want)
		}
	}
	for _, d := range []int{-1, 4, 5, math.MaxInt, math.MinInt} {
		if got := Places(p, d); len(got) != 0 {
			t.Errorf("Places of %d: %v", d, got)
		}
	}
	if got := Places(read(t, "hybrid m() { }"), 0); len(got) != 0 {
		t.Errorf("Places of nothing: %v", got)
	}
	// Of a program that is right by its types, but not by kinds, they are told, too.
	if got := Places(read(t, "hybrid m() { mem k: fix init pre 1; }"), 0); !slices.Equal(got, []int{1}) {
		t.Errorf("Places of a program with faults: %v", got)
	}
}

// all is a declaration of a kind that has each kind of items: its own expressions are the numbers e and f.
func all(kind, e, f int) api.Decl {
	d := api.Decl{Kind: kind, Name: "d" + strconv.Itoa(kind), Type: 1, Items: []api.Item{
		{Kind: api.ItLet, Name: "a", Type: 1, E: e}, {Kind: api.ItDer, Name: "x", E: e, F: f}, {Kind: api.ItReset, Name: "x", E: e, F: f}, {Kind: api.ItMem, Name: "k", Type: 1, E: e},
		{Kind: api.ItOn, Name: "k", E: e, F: f}, {Kind: api.ItMode, Name: "M", States: []string{"A"}}, {Kind: api.ItFrom, Name: "M", State: "A", Next: "A", F: f}, {Kind: api.ItOut, Name: "x"},
	}}
	if kind != api.DeHybrid {
		d.E = e
	}
	return d
}

// Declarations that no text has: items of a fun, and all items of a node, have places.
func TestOtherItems(t *testing.T) { // P9.2
	p := api.Program{Exprs: []api.Expr{{Kind: api.ExFix}}, Decls: []api.Decl{all(api.DeHybrid, 0, 0), all(api.DeNode, 0, 0), all(api.DeFun, 0, 0)}}
	checkFaults(t, "all items", p)
	for d, want := range [][]int{
		{2, 2, 1, 3, 2, 1, 3, 2, 2},
		{3, 2, 1, 3, 2, 1, 3, 2, 2, 3},
		{2, 2, 1, 3, 2, 1, 3, 2, 2, 2},
	} {
		if got := Places(p, d); !slices.Equal(got, want) || len(got) != len(names.Roots(p, d)) {
			t.Errorf("Places of %d: %v, wanted %v", d, got, want)
		}
	}
}

// own gives a declaration's own expressions one by one.
func own(d *api.Decl) []*int {
	var l []*int
	for i := range d.Items {
		it := &d.Items[i]
		switch it.Kind {
		case api.ItLet, api.ItMem:
			l = append(l, &it.E)
		case api.ItDer, api.ItReset, api.ItOn:
			l = append(l, &it.E, &it.F)
		case api.ItFrom:
			l = append(l, &it.F)
		}
	}
	if d.Kind != api.DeHybrid {
		l = append(l, &d.E)
	}
	return l
}

// What a place forbids, in each place of each kind of declarations: ExIs in all places of a fun and a node, pre and such not in a discrete place of theirs.
func TestEachPlace(t *testing.T) { // P9.1
	exprs := []api.Expr{
		{Kind: api.ExFix, At: 1}, {Kind: api.ExIs, Name: "M", State: "A", At: 2}, {Kind: api.ExIf, A: 1, B: 0, C: 0, At: 3}, {Kind: api.ExName, Name: "a", At: 4},
		{Kind: api.ExPre, A: 0, At: 5}, {Kind: api.ExArrow, A: 0, B: 0, At: 6}, {Kind: api.ExFby, A: 0, B: 0, At: 7},
		{Kind: api.ExCall, Name: "d2", At: 8}, {Kind: api.ExCall, Name: "d1", At: 9},
	}
	none, is, memories := []int(nil), []int{2}, []int{5, 6, 7, 8}
	for kind, forbids := range map[int][4][]int{
		api.DeFun:    {constant: {2, 4, 5, 6, 7, 8}, smooth: {2, 5, 6, 7, 8}, discrete: is},
		api.DeNode:   {constant: {2, 4, 5, 6, 7, 8}, smooth: {2, 5, 6, 7, 8}, discrete: is},
		api.DeHybrid: {constant: {2, 4, 5, 6, 7, 8}, smooth: memories, discrete: none},
	} {
		for i, r := range modelRoots(all(kind, 0, 0)) {
			for e := 2; e < len(exprs); e++ {
				p := api.Program{Exprs: exprs, Decls: []api.Decl{all(api.DeFun, 0, 0), all(api.DeNode, 0, 0), all(api.DeHybrid, 0, 0)}}
				*own(&p.Decls[kind-1])[i] = e
				at := exprs[e].At
				if e == 2 {
					at = 2 // the if is none, what it asks is one
				}
				if slices.Contains(forbids[modelPlace(r.what)], at) {
					checkFaults(t, r.what, p, at)
				} else {
					checkFaults(t, r.what, p)
				}
			}
		}
	}
}

// An expression that stands in several places is a fault if one of them forbids it, and one fault.
func TestShared(t *testing.T) { // P9.1
	p := api.Program{
		Exprs: []api.Expr{{Kind: api.ExName, Name: "a", At: 1}, {Kind: api.ExPre, A: 0, At: 2}, {Kind: api.ExNeg, A: 1, At: 3}, {Kind: api.ExFix, At: 4}},
		Decls: []api.Decl{
			{Kind: api.DeNode, Name: "g", Type: 1, E: 2, Params: []api.Param{{Name: "a", Type: 1}}},
			{Kind: api.DeFun, Name: "f", Type: 1, E: 0, Params: []api.Param{{Name: "a", Type: 1}}},
			{Kind: api.DeHybrid, Name: "m", Params: []api.Param{{Name: "a", Type: 1}}, Items: []api.Item{{Kind: api.ItDer, Name: "x", E: 3, F: 3}, {Kind: api.ItReset, Name: "x", E: 1, F: 0}}},
		},
	}
	checkFaults(t, "discrete alone", p)
	p.Decls[2].Items[0].E = 2
	checkFaults(t, "smooth, too", p, 2)
	p.Decls[2].Items[0].F = 0
	checkFaults(t, "a part of it constant", p, 1, 2)
	p.Decls[2].Items[0].E = 3
	checkFaults(t, "a part constant, it discrete", p, 1)
	p.Decls[2].Items[0].F = 1
	checkFaults(t, "constant and discrete", p, 1, 2)
	p.Decls[2].Items[0].F, p.Decls[1].E = 3, 2
	checkFaults(t, "of a node and a fun", p, 2)
}

// Faults rise by where they stand, not by where they are met; those of one place are one.
func TestOrder(t *testing.T) { // P9.1
	build := func(at ...int) api.Program {
		p := api.Program{Exprs: []api.Expr{{Kind: api.ExFix}}, Decls: []api.Decl{{Kind: api.DeHybrid, Name: "m"}}}
		for i, at := range at {
			p.Exprs = append(p.Exprs, api.Expr{Kind: api.ExPre, A: i, At: at})
		}
		p.Decls[0].Items = []api.Item{{Kind: api.ItLet, Name: "a", Type: 1, E: len(at)}}
		return p
	}
	checkFaults(t, "of several places", build(5, 4, 5, -7, math.MaxInt, 0), -7, 0, 4, 5, math.MaxInt)
	checkFaults(t, "rising", build(1, 2, 3), 1, 2, 3)
	checkFaults(t, "falling", build(3, 2, 1), 1, 2, 3)
	checkFaults(t, "of one place", build(3, 3, 3), 3)
}

// Sorts, of each kind of expressions.
func TestSort(t *testing.T) { // P9.1
	for s, want := range map[string]int{
		"1": 1, "u": 1, "x": 1, "k": 1, "v": 1, "-u": 1, "sqrt u": 1, "1 + u": 1, "1 - u": 1, "1 * u": 1, "1 / u": 1, "f(u)": 1, "f(f(f(1)))": 1,
		"if w then 1 else 2": 1, "if M is A then 1 else 2": 1, "if true then 1 else 2": 1, "if 1 < 2 then u else 1": 1, "if not w and o or 1 <= u then u else 1": 1, "if h(w) == o then 1 else 2": 1,
		"pre 1": 2, "1 -> u": 2, "1 fby u": 2, "g(u)": 2, "if n() then 1 else 2": 2,
		"-pre u": 2, "1 + pre u": 2, "f(g(u))": 2, "g(f(u))": 2, "if w then 1 else pre 2": 2, "if w then pre 1 else 2": 2, "if pre w then 1 else 2": 2,
		"if h(n()) then 1 else 2": 2, "f(1 + f(2 - -(1 fby 2)))": 2, "sqrt (u -> 1)": 2,
	} {
		p := read(t, head+"on 1 set k = "+s+"; "+tail)
		checkFaults(t, s, p)
		if got := Sort(p, p.Decls[4].Items[0].E); got != want {
			t.Errorf("%s: %d", s, got)
		}
	}
}

// Any expression that there is has a sort: one that is a fault where it stands, one that no declaration leads to, one that calls none. What a called declaration is itself is no matter.
func TestSortOfAny(t *testing.T) { // P9.1
	p := api.Program{
		Exprs: []api.Expr{
			{Kind: api.ExFix}, {Kind: api.ExName, Name: "none"}, {Kind: api.ExIs, Name: "none", State: "A"}, {Kind: api.ExCall, Name: "none"}, {Kind: api.ExCall, Name: "m", Args: []int{0}},
			{Kind: api.ExCall, Name: "f", Args: []int{0, 1, 2}}, {Kind: api.ExCall, Name: "g", Args: []int{0, 0}}, {Kind: api.ExPre, A: 1}, {Kind: api.ExCall, Name: "none", Args: []int{0, 7}},
			{Kind: api.ExCall, Name: "f", Args: []int{3, 6}}, {Kind: api.ExAnd, A: 0, B: 5}, {Kind: api.ExOr, A: 9, B: 0}, {Kind: api.ExArrow, A: 0, B: 0}, {Kind: api.ExFby, A: 0, B: 0},
		},
		Decls: []api.Decl{
			{Kind: api.DeFun, Name: "f", Type: 1, E: 12}, {Kind: api.DeNode, Name: "g", Type: 1, E: 0},
			{Kind: api.DeHybrid, Name: "m", Items: []api.Item{{Kind: api.ItDer, Name: "x", E: 13, F: 0}}},
		},
	}
	want := []int{1, 1, 1, 1, 1, 1, 2, 2, 2, 2, 1, 2, 2, 2}
	checkFaults(t, "with faults", p, 0)
	for e, sort := range want {
		if got := Sort(p, e); got != sort {
			t.Errorf("Sort(%d): %d, wanted %d", e, got, sort)
		}
	}
	for _, e := range []int{-1, len(want), len(want) + 1, math.MaxInt, math.MinInt} {
		if got := Sort(p, e); got != 0 {
			t.Errorf("Sort(%d): %d", e, got)
		}
	}
}

// A node without a name is called by no other kind of expressions.
func TestNoName(t *testing.T) { // P9.1
	p := api.Program{
		Exprs: []api.Expr{{Kind: api.ExFix}, {Kind: api.ExNeg, A: 0}, {Kind: api.ExCall, Name: "f", Args: []int{1}}},
		Decls: []api.Decl{
			{Kind: api.DeNode, Type: 1}, {Kind: api.DeFun, Name: "f", Type: 1, Params: []api.Param{{Name: "a", Type: 1}}},
			{Kind: api.DeHybrid, Name: "m", Items: []api.Item{{Kind: api.ItMem, Name: "k", Type: 1, E: 2}, {Kind: api.ItLet, Name: "a", Type: 1, E: 2}}},
		},
	}
	checkFaults(t, "a node without a name", p)
	if Sort(p, 2) != 1 {
		t.Errorf("Sort: %d", Sort(p, 2))
	}
}

// What no declaration leads to isn't asked.
func TestNobodys(t *testing.T) { // P9.1
	p := api.Program{
		Exprs: []api.Expr{{Kind: api.ExFix}, {Kind: api.ExPre, A: 0, At: 1}, {Kind: api.ExName, Name: "none", At: 2}, {Kind: api.ExNeg, A: 0, At: 3}, {Kind: api.ExFby, A: 3, B: 1, At: 4}},
		Decls: []api.Decl{{Kind: api.DeHybrid, Name: "m", Items: []api.Item{{Kind: api.ItMem, Name: "a", Type: 1, E: 3}}}},
	}
	checkFaults(t, "nobody's", p)
	p.Decls[0].Items[0].E = 1
	checkFaults(t, "somebody's", p, 1)
}

// Of programs that aren't right by their types, or their names, or may not be, there is nothing.
func TestNotRight(t *testing.T) { // P9.1, P9.2
	right := read(t, "fun f(a: fix): fix = a; hybrid m(u: fix) { let z: fix = -pre 1; mode M {A, B}; }")
	checkFaults(t, "right", right, 57)
	for what, turn := range map[string]func(p *api.Program){
		"a let of another type":    func(p *api.Program) { p.Decls[1].Items[0].Type = api.TypeBool },
		"a part of another type":   func(p *api.Program) { p.Exprs[1] = api.Expr{Kind: api.ExBool} },
		"a fun of another type":    func(p *api.Program) { p.Decls[0].Type = api.TypeBool },
		"a name that is none":      func(p *api.Program) { p.Exprs[0].Name = "z" },
		"an out of none":           func(p *api.Program) { p.Decls[1].Items[1] = api.Item{Kind: api.ItOut, Name: "q"} },
		"no hybrid":                func(p *api.Program) { p.Decls[1].Kind, p.Decls[1].Type, p.Decls[1].E = api.DeNode, 1, 1 },
		"an item that there isn't": func(p *api.Program) { p.Decls[1].Items[1].Kind = 9 },
		"a decl of no kind":        func(p *api.Program) { p.Decls = append(p.Decls, api.Decl{}) },
		"a part of its own":        func(p *api.Program) { p.Exprs[2].A = 2 },
		"an E that isn't there":    func(p *api.Program) { p.Decls[0].E = 4 },
		"one expression more":      func(p *api.Program) { p.Exprs = append(p.Exprs, api.Expr{}) },
	} {
		p := api.Program{Decls: slices.Clone(right.Decls), Exprs: slices.Clone(right.Exprs)}
		p.Decls[1].Items = slices.Clone(p.Decls[1].Items)
		turn(&p)
		if types.Right(p) {
			t.Errorf("%s: right", what)
		}
		for d := range p.Decls {
			if len(Places(p, d)) != 0 {
				t.Errorf("%s: places %v", what, Places(p, d))
			}
		}
		for e := range p.Exprs {
			if Sort(p, e) != 0 {
				t.Errorf("%s: sort %v", what, Sort(p, e))
			}
		}
		if len(Faults(p)) != 0 || Right(p) {
			t.Errorf("%s: %v, %v", what, Faults(p), Right(p))
		}
	}
	if none := (api.Program{}); Sort(none, 0) != 0 || len(Places(none, 0)) != 0 || len(Faults(none)) != 0 || Right(none) {
		t.Error("of nothing")
	}
}

// checkDrawn asks for all of a drawn program as the model has it.
func checkDrawn(t *testing.T, p api.Program) {
	t.Helper()
	checkFaults(t, "drawn", p, modelFaults(p)...)
	for e := range p.Exprs {
		if got := Sort(p, e); got != modelSort(p, e) {
			t.Errorf("Sort(%d): %d", e, got)
		}
	}
	for d, x := range p.Decls {
		var places, roots []int
		for _, r := range modelRoots(x) {
			places, roots = append(places, modelPlace(r.what)), append(roots, r.e)
		}
		if got := Places(p, d); !slices.Equal(got, places) || !slices.Equal(names.Roots(p, d), roots) {
			t.Errorf("Places(%d): %v, wanted %v, of %v", d, got, places, roots)
		}
	}
}

// checkSmooth asks whether all that stands in a smooth place is A.
func checkSmooth(t *testing.T, p api.Program) {
	t.Helper()
	for d := range p.Decls {
		places := Places(p, d)
		for i, root := range names.Roots(p, d) {
			if places[i] == smooth && Sort(p, root) != sortA {
				t.Errorf("the root %d of %d is no A", root, d)
			}
		}
	}
}

// Programs drawn have the model's faults, sorts and places.
func TestAsModel(t *testing.T) { // P9.1, P9.2, P9.3
	d := &drawer{state: 19}
	right, faults := 0, 0
	for i := range 2000 {
		p := d.program([]int{0, 10, 50, 200, 600}[i%5])
		checkDrawn(t, p)
		if Right(p) {
			right++
			checkSmooth(t, p)
		}
		faults += len(Faults(p))
		if t.Failed() {
			t.Fatalf("%v", p)
		}
	}
	if right < 400 || right > 1600 || faults < 3000 {
		t.Errorf("%d were right, %d faults", right, faults)
	}
}

// Trees too deep for nested calls, and such as have too many numbers to be walked, are asked, too.
func TestGreatTrees(t *testing.T) { // P9.1, rule 1
	const deep = 100_000
	defer debug.SetMaxStack(debug.SetMaxStack(4 << 20))
	for _, next := range []func(i int) api.Expr{
		func(i int) api.Expr { return api.Expr{Kind: api.ExNeg, A: i} },
		func(i int) api.Expr { return api.Expr{Kind: api.ExAdd, A: i, B: i} },
		func(i int) api.Expr { return api.Expr{Kind: api.ExIf, A: 1, B: i, C: i} },
		func(i int) api.Expr { return api.Expr{Kind: api.ExCall, Name: "f", Args: []int{i, i}} },
	} {
		l := []api.Expr{{Kind: api.ExName, Name: "a", At: 7}, {Kind: api.ExBool, V: 1}, {Kind: api.ExPre, A: 0, At: 8}}
		for i := range deep {
			l = append(l, next(i+2))
		}
		params := []api.Param{{Name: "a", Type: 1}, {Name: "b", Type: 1}}
		p := api.Program{Exprs: l, Decls: []api.Decl{
			{Kind: api.DeHybrid, Name: "m", Params: params, Items: []api.Item{{Kind: api.ItDer, Name: "x"}, {Kind: api.ItReset, Name: "x", E: len(l) - 1}}},
			{Kind: api.DeFun, Name: "f", Type: 1, Params: params},
		}}
		p.Decls[0].Items[0].F = len(l) - 1
		checkFaults(t, "a great tree, constant", p, 7, 8)
		p.Decls[0].Items[0].E, p.Decls[0].Items[0].F = len(l)-1, 3
		p.Exprs[3] = api.Expr{Kind: api.ExFix}
		checkFaults(t, "a tree that ends in a number", p)
		p.Exprs[3] = next(2)
		p.Decls[0].Items[0].F = 2
		checkFaults(t, "a great tree, smooth", p, 7, 8)
		if Sort(p, len(l)-1) != 2 || Sort(p, 1) != 1 {
			t.Error("the sort of a great tree")
		}
	}
}

// Many items, arguments and faults are asked in few steps; so are as many declarations as a text may have.
func TestMany(t *testing.T) { // P9.1, P9.2, rule 1
	const many = 100_000
	m, f := api.Decl{Kind: api.DeHybrid, Name: "m"}, api.Decl{Kind: api.DeNode, Name: "f", Type: 1}
	call := api.Expr{Kind: api.ExCall, Name: "f", At: many}
	p := api.Program{Exprs: []api.Expr{{Kind: api.ExFix, At: -1}}}
	var at, places []int
	for i := range many {
		s := strconv.Itoa(i)
		f.Params = append(f.Params, api.Param{Name: s, Type: 1})
		m.Items = append(m.Items, api.Item{Kind: api.ItMem, Name: s, Type: 1, E: i + 1})
		call.Args = append(call.Args, i+1)
		p.Exprs = append(p.Exprs, api.Expr{Kind: api.ExPre, A: 0, At: i})
		at, places = append(at, i), append(places, 1)
	}
	p.Exprs = append(p.Exprs, call)
	m.Items = append(m.Items, api.Item{Kind: api.ItLet, Name: "z", Type: 1, E: many + 1})
	p.Decls = []api.Decl{m, f}
	checkFaults(t, "many items", p, append(at, many)...)
	if got := Places(p, 0); !slices.Equal(got, append(places, 2)) {
		t.Errorf("places of many items: %d", len(got))
	}
	s := "hybrid m() { let z: fix = pre 1; }"
	at = []int{strings.Index(s, "pre")}
	for i := range 600 {
		at = append(at, len(s)+strings.Index("fun f000(): fix = pre 1;", "pre"))
		s += "fun f" + strconv.Itoa(100+i) + "(): fix = pre 1;"
	}
	checkFaults(t, "many declarations", read(t, s), at...)
}

// Nothing that is handed in is changed, or shared with an answer.
func TestMemory(t *testing.T) { // rule 5
	build := func() api.Program {
		items := []api.Item{{Kind: api.ItMem, Name: "z", Type: 1, E: 1}, {Kind: api.ItOut, Name: "spare"}}[:1]
		params := []api.Param{{Name: "u", Type: 1}, {Name: "spare", Type: 2}}[:1]
		exprs := []api.Expr{{Kind: api.ExFix, At: 4}, {Kind: api.ExCall, Name: "g", Args: []int{0, 77}[:1], At: 3}, {Kind: api.ExBool, V: 9}}[:2]
		return api.Program{Exprs: exprs, Decls: []api.Decl{{Kind: api.DeHybrid, Name: "m", Params: params, Items: items}, {Kind: api.DeNode, Name: "g", Type: 1, Params: params, E: 0}, {Name: "spare"}}[:2]}
	}
	p := build()
	faults, places := Faults(p), Places(p, 0)
	if Right(p) || Sort(p, 1) != 2 || Sort(p, 0) != 1 || !slices.Equal(faults, faultsAt([]int{3})) || !slices.Equal(places, []int{1}) {
		t.Errorf("%v, %v, %v", Right(p), faults, places)
	}
	if q := build(); !reflect.DeepEqual(p, q) || !reflect.DeepEqual(spare(p), spare(q)) {
		t.Error("what was handed in is changed")
	}
	faults[0].At, places[0] = 50, 50
	if other := Places(p, 0); !slices.Equal(Faults(p), faultsAt([]int{3})) || !slices.Equal(other, []int{1}) || unsafe.SliceData(other) == unsafe.SliceData(places) {
		t.Error("an answer is shared with another one")
	}
}

// spare is what lies behind the ends of a program's lists.
func spare(p api.Program) []any {
	d := p.Decls[0]
	return []any{p.Decls[:3][2], d.Params[:2][1], d.Items[:2][1], p.Exprs[:3][2], p.Exprs[1].Args[:2][1]}
}
