package types

import (
	"math"
	"reflect"
	"runtime/debug"
	"slices"
	"strconv"
	"strings"
	"testing"
	"unsafe"

	"astrolabe/api"
	"astrolabe/names"
	"astrolabe/parse"
)

func read(t *testing.T, s string) api.Program {
	t.Helper()
	p, fault := parse.Parse(s)
	if fault.Code != api.OK {
		t.Fatalf("%q: %v", s, fault)
	}
	return p
}

// faultsAt are faults of types at these places.
func faultsAt(l []int) []api.Fault {
	var faults []api.Fault
	for _, at := range l {
		faults = append(faults, api.Fault{Code: api.ErrType, At: at})
	}
	return faults
}

// checkFaults asks for a program's faults, and whether it is right.
func checkFaults(t *testing.T, what string, p api.Program, want ...int) {
	t.Helper()
	if !names.Right(p) {
		t.Fatalf("%s: faults of names %v", what, names.Faults(p))
	}
	if got := Faults(p); !slices.Equal(got, faultsAt(want)) {
		t.Errorf("%s: faults %v, wanted at %v", what, got, want)
	}
	if Right(p) != (len(want) == 0) {
		t.Errorf("%s: Right: %v", what, Right(p))
	}
}

// checkMarked asks for the faults of a text: each stands behind a mark !, which is taken out.
func checkMarked(t *testing.T, marked string) {
	t.Helper()
	var want []int
	pieces := strings.Split(marked, "!")
	s := pieces[0]
	for _, piece := range pieces[1:] {
		want = append(want, len(s))
		s += piece
	}
	checkFaults(t, s, read(t, s), want...)
}

// Two functions, and a hybrid, of what there is of each type.
const (
	head = "fun f(a: fix, b: bool): fix = 1; node g(a: bool, b: fix, c: fix): bool { return true; } hybrid m(u: fix, w: bool) { "
	tail = " let n: fix = 1; let o: bool = true; der x = 1 init 0; mem k: fix init 1; mem l: bool init true; mode M {A, B}; }"
)

// checkExpr asks for the faults of an expression that stands where its own type is wanted.
func checkExpr(t *testing.T, marked string) {
	t.Helper()
	typ := "fix"
	plain := strings.ReplaceAll(marked, "!", "")
	p := read(t, head+"let z: fix = "+plain+"; "+tail)
	d := names.Decl(p, "m")
	if Of(p, d, p.Decls[d].Items[0].E) == api.TypeBool {
		typ = "bool"
	}
	checkMarked(t, head+"let z: "+typ+" = "+marked+"; "+tail)
}

// The type of each kind of expressions, whatever its parts are.
func TestTypes(t *testing.T) { // P8.1
	for s, want := range map[string]int{
		"1": 1, "0.5": 1, "true": 2, "false": 2,
		"u": 1, "w": 2, "n": 1, "o": 2, "x": 1, "k": 1, "l": 2, "z": 1,
		"-1": 1, "-true": 1, "sqrt w": 1, "not true": 2, "not 1": 2,
		"1 + 2": 1, "true + w": 1, "u - 1": 1, "w - w": 1, "u * 2": 1, "w * w": 1, "u / 2": 1, "w / w": 1,
		"1 < 2": 2, "w < w": 2, "1 <= 2": 2, "1 == 2": 2, "w == w": 2,
		"1 and 2": 2, "w and w": 2, "1 or 2": 2, "w or w": 2,
		"if w then 1 else true": 1, "if w then true else 1": 2, "if 1 then u else u": 1,
		"pre 1": 1, "pre w": 2, "pre pre w": 2,
		"1 -> w": 1, "w -> 1": 2, "1 fby w": 1, "w fby 1": 2,
		"f(u, w)": 1, "f(w, u)": 1, "g(w, u, u)": 2, "g(u, w, w)": 2, "M is A": 2,
		"if w then pre (l -> 1) else 1": 2, "pre (if u then k fby w else w)": 1,
	} {
		p := read(t, head+"let z: fix = "+s+"; "+tail)
		d := names.Decl(p, "m")
		e := p.Decls[d].Items[0].E
		if got := Of(p, d, e); got != want {
			t.Errorf("%s: %d", s, got)
		}
		l := All(p, d)
		if len(l) != len(p.Exprs) || l[e] != want {
			t.Errorf("%s: %v", s, l)
		}
	}
}

// Any expression has its type as if it stood in any declaration.
func TestOfAny(t *testing.T) { // P8.1
	p := api.Program{
		Exprs: []api.Expr{
			{Kind: api.ExFix}, {Kind: api.ExName, Name: "a"}, {Kind: api.ExName, Name: "b"}, {Kind: api.ExName, Name: "M"}, {Kind: api.ExName, Name: "none"},
			{Kind: api.ExCall, Name: "none"}, {Kind: api.ExCall, Name: "m", Args: []int{0}}, {Kind: api.ExCall, Name: "f"}, {Kind: api.ExIs, Name: "a", State: "none"},
			{Kind: api.ExPre, A: 1}, {Kind: api.ExArrow, A: 4, B: 0}, {Kind: api.ExIf, A: 0, B: 2, C: 0}, {Kind: api.ExNeg, A: 4}, {Kind: api.ExSame, A: 4, B: 5},
		},
		Decls: []api.Decl{
			{Kind: api.DeFun, Name: "f", Type: 7, Params: []api.Param{{Name: "a", Type: 2}}},
			{Kind: api.DeHybrid, Name: "m", Type: -3, Items: []api.Item{{Kind: api.ItMode, Name: "M", Type: 5}, {Kind: api.ItDer, Name: "a", Type: 5}, {Kind: api.ItMem, Name: "b", Type: 9}}},
		},
	}
	for d, want := range [][]int{
		{1, 2, 0, 0, 0, 0, -3, 7, 2, 2, 0, 0, 1, 2},
		{1, 1, 9, 0, 0, 0, -3, 7, 2, 1, 0, 9, 1, 2},
	} {
		if got := All(p, d); !slices.Equal(got, want) {
			t.Errorf("All(%d): %v, wanted %v", d, got, want)
		}
		for e, typ := range want {
			if got := Of(p, d, e); got != typ {
				t.Errorf("Of(%d, %d): %d, wanted %d", d, e, got, typ)
			}
		}
		for _, e := range []int{-1, len(want), len(want) + 1, math.MaxInt, math.MinInt} {
			if got := Of(p, d, e); got != 0 {
				t.Errorf("Of(%d, %d): %d", d, e, got)
			}
		}
	}
	for _, d := range []int{-1, 2, 3, math.MaxInt, math.MinInt} {
		if Of(p, d, 0) != 0 || len(All(p, d)) != 0 {
			t.Errorf("of %d: %v", d, All(p, d))
		}
	}
}

// What parts are wanted to be: of each kind, each part alone, and all of them.
func TestParts(t *testing.T) { // P8.2
	for _, s := range []string{
		"1", "true", "u", "w", "n", "o", "x", "k", "l", "M is A",
		"-1", "-!w", "sqrt 1", "sqrt !w", "not w", "not !u",
		"1 + 2", "!w + 1", "1 + !w", "!w + !l", "1 - 2", "!w - 1", "1 - !w", "!w - !w",
		"1 * 2", "!w * 1", "1 * !w", "!w * !w", "1 / 2", "!w / 1", "1 / !w", "!w / !w",
		"1 < 2", "!w < 1", "1 < !w", "!w < !w", "1 <= 2", "!w <= 1", "1 <= !w", "!w <= !w",
		"w and l", "!1 and w", "w and !1", "!1 and !2", "w or l", "!1 or w", "w or !u", "!1 or !2",
		"1 == 2", "w == l", "1 == !w", "w == !1",
		"if w then 1 else 2", "if w then l else w", "if !1 then 1 else 2", "if w then 1 else !w", "if w then w else !1", "if !u then w else !1",
		"pre 1", "pre w", "1 -> 2", "w -> l", "1 -> !w", "w -> !1", "1 fby 2", "w fby l", "1 fby !w", "w fby !1",
		"f(1, true)", "f(!true, true)", "f(1, !1)", "f(!w, !u)", "g(w, 1, 2)", "g(!1, 1, 2)", "g(w, !w, 2)", "g(w, 1, !w)", "g(!1, !w, !w)",
	} {
		checkExpr(t, s)
	}
}

// Faults stand where an expression's token does, at whatever depth, of what it is, not of what it should be.
func TestPartsOfParts(t *testing.T) { // P8.2
	for _, s := range []string{
		"- -!w", "not not !1", "-!not !1", "not !-!w", "w == (1 !+ 2)", "w == 1 !+ 2", "if 1 !+ 2 then 1 else 2", "if w then 1 else 2 !< 3",
		"pre (!1 and !2)", "1 -> 2 -> !w", "1 fby w !-> l", "pre pre -!w", "-!pre w", "M is A == w", "M is A == !1", "1 + !M is A",
		"1 + (if w then 2 else !l)", "1 + (!if w then l else w)", "f(!g(w, 1, 2), g(w, 1, !w))", "f(-!w, not !u)",
		"(!w + 1) == (2 -> !l)", "if !f(1, !1) then 1 else 2", "not (1 == !w)",
	} {
		checkExpr(t, s)
	}
}

// checkItem asks for the faults of an item of a hybrid.
func checkItem(t *testing.T, marked string) {
	t.Helper()
	checkMarked(t, head+marked+tail)
}

// What an item's expressions are wanted to be: of each kind, each alone.
func TestItems(t *testing.T) { // P8.2
	for _, s := range []string{
		"let z: fix = 1;", "let z: fix = !w;", "let z: bool = w;", "let z: bool = !1;", "let z: bool = 1 < 2;",
		"mem z: fix init 1;", "mem z: fix init !w;", "mem z: bool init w;", "mem z: bool init !1;",
		"der z = 1 init 2;", "der z = !w init 2;", "der z = 1 init !w;", "der z = !w init !l;",
		"reset x on 1 = 2;", "reset x on !w = 2;", "reset x on 1 = !w;", "reset x on !w = !l;",
		"on 1 set k = 2;", "on !w set k = 2;", "on 1 set k = !w;", "on !w set k = !l;",
		"on 1 set l = w;", "on !w set l = w;", "on 1 set l = !2;", "on !w set l = !2;",
		"from M.A on 1 goto B;", "from M.A on !w goto B;", "out x;", "out l;", "mode N {A};",
		"let z: fix = -!w; on sqrt !w set l = not !1; from M.A on 1 !< 2 goto A;",
	} {
		checkItem(t, s)
	}
}

// What a declaration is wanted to be.
func TestDeclarations(t *testing.T) { // P8.2
	for _, s := range []string{
		"fun f(a: fix): fix = a; hybrid m() { }",
		"fun f(a: fix): bool = !a; hybrid m() { }",
		"fun f(a: bool): fix = !a; hybrid m() { }",
		"fun f(a: bool): bool = a; hybrid m() { }",
		"hybrid m() { } node g(a: fix): fix { return a; }",
		"hybrid m() { } node g(a: fix): bool { return !a; }",
		"hybrid m() { } node g(a: bool): fix { let n: bool = !1; let o: fix = !n; return !n; } fun f(): bool = !g(!1);",
		"fun f(a: bool): bool = f(f(a)); hybrid m() { let b: fix = !f(!1); }",
	} {
		checkMarked(t, s)
	}
}

// Types, and items, that no text has: a type is held against another one whatever it is.
func TestOtherTypes(t *testing.T) { // P8.1, P8.2
	build := func(kind, want, has int) api.Program {
		return api.Program{
			Exprs: []api.Expr{{Kind: api.ExName, Name: "a", At: 3}, {Kind: api.ExCall, Name: "f", Args: []int{0}, At: 4}, {Kind: api.ExFix, At: 5}},
			Decls: []api.Decl{
				{Kind: kind, Name: "f", Type: 1, E: 2, Params: []api.Param{{Name: "b", Type: want}}},
				{Kind: api.DeHybrid, Name: "m", Type: 2, Params: []api.Param{{Name: "a", Type: has}}, Items: []api.Item{{Kind: api.ItLet, Name: "c", Type: 1, E: 1}}},
			},
		}
	}
	for _, want := range []int{0, 1, 2, 3, -1, math.MinInt} {
		for _, has := range []int{0, 1, 2, 3, -1, math.MinInt} {
			p := build(api.DeFun+want&1, want, has)
			if Of(p, 1, 0) != has {
				t.Errorf("Of: %d, wanted %d", Of(p, 1, 0), has)
			}
			if want == has {
				checkFaults(t, "of one type", p)
			} else {
				checkFaults(t, "of another type", p, 3)
			}
		}
	}
	// A fun's items are asked, too; a hybrid's type is no matter; what an item hasn't is none.
	p := build(api.DeFun, 1, 1)
	p.Exprs = append(p.Exprs, api.Expr{Kind: api.ExBool, At: 6})
	p.Decls[0].Items = []api.Item{{Kind: api.ItDer, Name: "x", Type: 2, E: 3, F: 2}, {Kind: api.ItOut, Name: "x", Type: 2}, {Kind: api.ItMode, Name: "M", Type: 2}}
	checkFaults(t, "a fun's item", p, 6)
}

// What is wanted of one expression in several places is told once; faults rise by where they stand, not by where they are met.
func TestOnce(t *testing.T) { // P8.2
	build := func(at ...int) api.Program {
		p := api.Program{Decls: []api.Decl{
			{Kind: api.DeNode, Name: "g", Type: 1, Params: []api.Param{{Name: "a", Type: 1}, {Name: "b", Type: 1}}},
			{Kind: api.DeHybrid, Name: "m", Items: []api.Item{{Kind: api.ItDer, Name: "x"}, {Kind: api.ItReset, Name: "x"}}},
		}}
		for _, at := range at {
			p.Exprs = append(p.Exprs, api.Expr{Kind: api.ExBool, At: at})
		}
		return p
	}
	p := build(8)
	checkFaults(t, "one expression", p, 8)
	p.Exprs = append(p.Exprs, api.Expr{Kind: api.ExCall, Name: "g", Args: []int{0, 0}}, api.Expr{Kind: api.ExAdd, A: 0, B: 0, At: 9})
	p.Decls[0].E = 1
	checkFaults(t, "one expression", p, 8)
	p = build(5, 4, 5, -7, math.MaxInt)
	p.Decls[0].E = 1
	p.Decls[1].Items[0].E, p.Decls[1].Items[0].F = 4, 3
	p.Decls[1].Items[1].E, p.Decls[1].Items[1].F = 2, 0
	checkFaults(t, "of several places", p, -7, 4, 5, math.MaxInt)
}

// One expression has a type in each declaration that it stands in: a fault in one of them is one.
func TestShared(t *testing.T) { // P8.1, P8.2
	p := api.Program{
		Exprs: []api.Expr{{Kind: api.ExName, Name: "a", At: 1}, {Kind: api.ExPre, A: 0, At: 2}, {Kind: api.ExNeg, A: 1, At: 3}},
		Decls: []api.Decl{
			{Kind: api.DeFun, Name: "f", Type: 1, E: 2, Params: []api.Param{{Name: "a", Type: 1}}},
			{Kind: api.DeFun, Name: "g", Type: 2, E: 1, Params: []api.Param{{Name: "a", Type: 2}}},
			{Kind: api.DeHybrid, Name: "m"},
		},
	}
	checkFaults(t, "shared", p)
	p.Decls[1].E = 2
	checkFaults(t, "shared", p, 2, 3)
	p.Decls[0].E, p.Decls[1].E = 2, 1
	p.Decls[0].Params[0].Type = 2
	checkFaults(t, "shared", p, 2)
}

// What no declaration leads to isn't asked.
func TestNobodys(t *testing.T) { // P8.2
	p := api.Program{
		Exprs: []api.Expr{{Kind: api.ExBool}, {Kind: api.ExNeg, A: 0}, {Kind: api.ExCall, Name: "m", Args: []int{1}}, {Kind: api.ExName, Name: "none"}, {Kind: api.ExFix}, {Kind: api.ExNot, A: 4}},
		Decls: []api.Decl{{Kind: api.DeHybrid, Name: "m", Items: []api.Item{{Kind: api.ItLet, Name: "a", Type: 2}}}},
	}
	checkFaults(t, "nobody's", p)
	p.Decls[0].Items[0].E = 5
	checkFaults(t, "somebody's", p, 0)
}

// Of programs that aren't right by their names, or may not be, there is nothing, whatever their types are.
func TestNotRight(t *testing.T) { // P8.1, P8.2
	right := read(t, "fun f(a: fix): fix = a; hybrid m(u: fix) { let z: fix = -true; mode M {A, B}; }")
	checkFaults(t, "right", right, 57)
	for what, turn := range map[string]func(p *api.Program){
		"a name that is none":     func(p *api.Program) { p.Exprs[0].Name = "z" },
		"an out of none":          func(p *api.Program) { p.Decls[1].Items[1] = api.Item{Kind: api.ItOut, Name: "q"} },
		"a name that is twice":    func(p *api.Program) { p.Decls[1].Items[0].Name = "u" },
		"no hybrid":               func(p *api.Program) { p.Decls[1].Kind, p.Decls[1].E = api.DeNode, 1 },
		"two hybrids":             func(p *api.Program) { p.Decls = append(p.Decls, api.Decl{Kind: api.DeHybrid, Name: "n"}) },
		"a kind that there isn't": func(p *api.Program) { p.Decls[1].Items[1].Kind = 9 },
		"a decl of no kind":       func(p *api.Program) { p.Decls = append(p.Decls, api.Decl{}) },
		"a part of its own":       func(p *api.Program) { p.Exprs[2].A = 2 },
		"an E that isn't there":   func(p *api.Program) { p.Decls[0].E = 3 },
		"one expression more":     func(p *api.Program) { p.Exprs = append(p.Exprs, api.Expr{}) },
	} {
		p := api.Program{Decls: slices.Clone(right.Decls), Exprs: slices.Clone(right.Exprs)}
		p.Decls[1].Items = slices.Clone(p.Decls[1].Items)
		turn(&p)
		if names.Right(p) {
			t.Errorf("%s: right", what)
		}
		for d := range p.Decls {
			if Of(p, d, 1) != 0 || len(All(p, d)) != 0 {
				t.Errorf("%s: %v", what, All(p, d))
			}
		}
		if len(Faults(p)) != 0 || Right(p) {
			t.Errorf("%s: %v, %v", what, Faults(p), Right(p))
		}
	}
	if none := (api.Program{}); Of(none, 0, 0) != 0 || len(All(none, 0)) != 0 || len(Faults(none)) != 0 || Right(none) {
		t.Error("of nothing")
	}
}

// Programs drawn have the model's types and faults.
func TestAsModel(t *testing.T) { // P8.1, P8.2, P8.3
	d := &drawer{state: 11}
	right, faults := 0, 0
	for i := range 8000 {
		p := d.program([]int{0, 10, 30, 100, 400}[i%5])
		want := modelFaults(p)
		checkFaults(t, "drawn", p, want...)
		if len(want) == 0 {
			right++
		}
		faults += len(want)
		for k, x := range p.Decls {
			l := All(p, k)
			if len(l) != len(p.Exprs) {
				t.Fatalf("All: %d, of %d", len(l), len(p.Exprs))
			}
			for e, typ := range l {
				if want := modelType(p, x, e); typ != want {
					t.Fatalf("type of %v: %d, wanted %d", p.Exprs[e], typ, want)
				}
			}
			if e := d.below(len(l)); Of(p, k, e) != l[e] {
				t.Fatalf("Of(%d): %d, wanted %d", e, Of(p, k, e), l[e])
			}
		}
		if t.Failed() {
			t.Fatalf("%v", p)
		}
	}
	if right < 1500 || right > 6000 || faults < 10_000 {
		t.Errorf("%d were right, %d faults", right, faults)
	}
}

// Trees too deep for nested calls, and such as have too many numbers to be walked, are asked, too.
func TestGreatTrees(t *testing.T) { // P8.1, P8.2, rule 1
	const deep = 300_000
	defer debug.SetMaxStack(debug.SetMaxStack(4 << 20))
	for _, next := range []func(i int) api.Expr{
		func(i int) api.Expr { return api.Expr{Kind: api.ExPre, A: i} },
		func(i int) api.Expr { return api.Expr{Kind: api.ExFby, A: i, B: i} },
		func(i int) api.Expr { return api.Expr{Kind: api.ExIf, A: 1, B: i, C: i} },
		func(i int) api.Expr { return api.Expr{Kind: api.ExCall, Name: "f", Args: []int{i, i}} },
	} {
		l := []api.Expr{{Kind: api.ExName, Name: "a", At: 7}, {Kind: api.ExBool, V: 1}, {Kind: api.ExAdd, A: 0, B: 0, At: 8}}
		for i := range deep {
			l = append(l, next(i+2))
		}
		p := api.Program{Exprs: l, Decls: []api.Decl{{Kind: api.DeHybrid, Name: "m"}, {Kind: api.DeNode, Name: "f", Type: 1, E: len(l) - 1, Params: []api.Param{{Name: "a", Type: 1}, {Name: "b", Type: 1}}}}}
		checkFaults(t, "a great tree", p)
		if Of(p, 1, len(l)-1) != 1 {
			t.Error("the type of a great tree")
		}
		p.Decls[1].Params[0].Type = 2
		if l[3].Kind == api.ExCall {
			checkFaults(t, "a great tree", p, 0, 7, 8)
		} else {
			checkFaults(t, "a great tree", p, 7)
		}
	}
}

// Many names, items and arguments are asked in few steps.
func TestMany(t *testing.T) { // P8.2, rule 1
	const many = 100_000
	m, f := api.Decl{Kind: api.DeHybrid, Name: "m"}, api.Decl{Kind: api.DeFun, Name: "f", Type: 2}
	call := api.Expr{Kind: api.ExCall, Name: "f"}
	var exprs []api.Expr
	for i := range many {
		s, typ := strconv.Itoa(i), 1+i%2
		f.Params = append(f.Params, api.Param{Name: s, Type: typ})
		m.Items = append(m.Items, api.Item{Kind: api.ItLet, Name: s, Type: typ, E: i})
		call.Args = append(call.Args, i)
		exprs = append(exprs, api.Expr{Kind: api.ExName, Name: s, At: i})
	}
	exprs = append(exprs, call)
	m.Items = append(m.Items, api.Item{Kind: api.ItLet, Name: "z", Type: 2, E: many})
	f.E = 1
	p := api.Program{Exprs: exprs, Decls: []api.Decl{m, f}}
	checkFaults(t, "many names", p)
	f.Params[many-1].Type = 1
	checkFaults(t, "many names", p, many-1)
}

// A text may have this many declarations: each of them is asked in few steps.
func TestManyDeclarations(t *testing.T) { // P8.2, rule 1
	s := "hybrid m() { let z: bool = 1; }"
	at := []int{strings.Index(s, "1")}
	for i := range 700 {
		at = append(at, len(s)+strings.Index("fun f000(): bool = 1;", "1"))
		s += "fun f" + strconv.Itoa(100+i) + "(): bool = 1;"
	}
	checkFaults(t, "many declarations", read(t, s), at...)
}

// Nothing that is handed in is changed, or shared with an answer.
func TestMemory(t *testing.T) { // rule 5
	bytes := []byte("abc")
	shared := unsafe.String(unsafe.SliceData(bytes), len(bytes))
	build := func(s string) api.Program {
		items := []api.Item{{Kind: api.ItLet, Name: "z", Type: 2, E: 1}, {Kind: api.ItOut, Name: "spare"}}[:1]
		params := []api.Param{{Name: s, Type: 1}, {Name: "spare", Type: 2}}[:1]
		exprs := []api.Expr{{Kind: api.ExName, Name: s, At: 4}, {Kind: api.ExCall, Name: s, Args: []int{0, 77}[:1], At: 3}, {Kind: api.ExBool, V: 9}}[:2]
		return api.Program{Exprs: exprs, Decls: []api.Decl{{Kind: api.DeHybrid, Name: "m", Params: params, Items: items}, {Kind: api.DeFun, Name: s, Type: 1, Params: params, E: 0}, {Name: "spare"}}[:2]}
	}
	p := build(shared)
	faults, all := Faults(p), All(p, 0)
	if Right(p) || Of(p, 1, 1) != 1 || !slices.Equal(faults, faultsAt([]int{3})) || !slices.Equal(all, []int{1, 1}) {
		t.Errorf("%v, %v, %v", Right(p), faults, all)
	}
	if q := build("abc"); !reflect.DeepEqual(p, q) || !reflect.DeepEqual(spare(p), spare(q)) {
		t.Error("what was handed in is changed")
	}
	faults[0].At, all[0] = 50, 50
	if !slices.Equal(Faults(p), faultsAt([]int{3})) || !slices.Equal(All(p, 0), []int{1, 1}) {
		t.Error("an answer is shared with another one")
	}
}

// spare is what lies behind the ends of a program's lists.
func spare(p api.Program) []any {
	d := p.Decls[0]
	return []any{p.Decls[:3][2], d.Params[:2][1], d.Items[:2][1], p.Exprs[:3][2], p.Exprs[1].Args[:2][1]}
}
