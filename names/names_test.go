package names

import (
	"math"
	"reflect"
	"runtime/debug"
	"slices"
	"strconv"
	"testing"
	"unsafe"

	"astrolabe/api"
	"astrolabe/ast"
	"astrolabe/parse"
)

func fix(v int64) api.Expr                { return api.Expr{Kind: api.ExFix, V: v} }
func name(s string) api.Expr              { return api.Expr{Kind: api.ExName, Name: s} }
func one(kind, a int) api.Expr            { return api.Expr{Kind: kind, A: a} }
func two(kind, a, b int) api.Expr         { return api.Expr{Kind: kind, A: a, B: b} }
func call(s string, args ...int) api.Expr { return api.Expr{Kind: api.ExCall, Name: s, Args: args} }

func at(x api.Expr, at int) api.Expr {
	x.At = at
	return x
}

func read(t *testing.T, s string) api.Program {
	t.Helper()
	p, fault := parse.Parse(s)
	if fault.Code != api.OK {
		t.Fatalf("%q: %v", s, fault)
	}
	return p
}

// faultsAt are faults of names at these places.
func faultsAt(l []int) []api.Fault {
	var faults []api.Fault
	for _, at := range l {
		faults = append(faults, api.Fault{Code: api.ErrName, At: at})
	}
	return faults
}

// checkFaults asks for a program's faults, and whether it is right.
func checkFaults(t *testing.T, what string, p api.Program, want ...int) {
	t.Helper()
	if got := Faults(p); !slices.Equal(got, faultsAt(want)) {
		t.Errorf("%s: faults %v, wanted at %v", what, got, want)
	}
	if Right(p) != (len(want) == 0) {
		t.Errorf("%s: Right: %v", what, Right(p))
	}
}

func checkText(t *testing.T, s string, want ...int) {
	t.Helper()
	checkFaults(t, s, read(t, s), want...)
}

// checkItems asks for the faults of a hybrid of these items, of places counted from the first one on.
func checkItems(t *testing.T, items string, want ...int) {
	t.Helper()
	const head = "hybrid m(u: fix, w: bool) { "
	for i := range want {
		want[i] += len(head)
	}
	checkText(t, head+items+" }", want...)
}

const whole = "fun f(a: fix, b: bool): fix = a; node g(): bool { let n: fix = f(o, true); let o: fix = 1; return n < o; } " +
	"hybrid m(u: fix, v: bool) { out x; der x = u init 0; mem k: bool init v; mode M {A, B}; let y: fix = 1; from M.A on y goto B; on x set k = g(); reset x on u = y; mem j: fix init 2; }"

func TestVars(t *testing.T) { // P7.1
	p := read(t, whole)
	for d, want := range [][]api.Var{
		{{Name: "a", Sort: api.VarParam, Type: api.TypeFix, Index: 0}, {Name: "b", Sort: api.VarParam, Type: api.TypeBool, Index: 1}},
		{{Name: "n", Sort: api.VarLet, Type: api.TypeFix, Index: 0}, {Name: "o", Sort: api.VarLet, Type: api.TypeFix, Index: 1}},
		{
			{Name: "u", Sort: api.VarParam, Type: api.TypeFix, Index: 0}, {Name: "v", Sort: api.VarParam, Type: api.TypeBool, Index: 1},
			{Name: "x", Sort: api.VarDer, Type: api.TypeFix, Index: 1}, {Name: "k", Sort: api.VarMem, Type: api.TypeBool, Index: 2},
			{Name: "M", Sort: api.VarMode, Type: 0, Index: 3}, {Name: "y", Sort: api.VarLet, Type: api.TypeFix, Index: 4},
			{Name: "j", Sort: api.VarMem, Type: api.TypeFix, Index: 8},
		},
	} {
		if got := Vars(p, d); !slices.Equal(got, want) {
			t.Errorf("Vars of %d: %v, wanted %v", d, got, want)
		}
		for _, v := range want {
			if got, ok := Find(p, d, v.Name); !ok || got != v {
				t.Errorf("Find(%d, %s): %v, %v", d, v.Name, got, ok)
			}
		}
		for _, none := range []string{"", "A", "f", "m", "X", "aa", "u "} {
			if got, ok := Find(p, d, none); ok || got != (api.Var{}) {
				t.Errorf("Find(%d, %q): %v, %v", d, none, got, ok)
			}
		}
	}
	if got := Vars(read(t, "hybrid m() { }"), 0); len(got) != 0 {
		t.Errorf("Vars of nothing: %v", got)
	}
}

// A name is the first of those that have it, of all sorts; what makes none has none.
func TestFirstOfName(t *testing.T) { // P7.1
	items := []api.Item{
		{Kind: api.ItOut, Name: "x"}, {Kind: api.ItReset, Name: "x"}, {Kind: api.ItOn, Name: "x"}, {Kind: api.ItFrom, Name: "x"},
		{Kind: api.ItMode, Name: "x", Type: 7}, {Kind: api.ItDer, Name: "x", Type: 7}, {Kind: api.ItLet, Name: "x", Type: 7}, {Kind: api.ItMem, Name: "x", Type: -2},
	}
	p := api.Program{Exprs: []api.Expr{fix(0)}, Decls: []api.Decl{{Kind: api.DeHybrid, Items: items}}}
	want := []api.Var{
		{Name: "x", Sort: api.VarMode, Type: 0, Index: 4}, {Name: "x", Sort: api.VarDer, Type: api.TypeFix, Index: 5},
		{Name: "x", Sort: api.VarLet, Type: 7, Index: 6}, {Name: "x", Sort: api.VarMem, Type: -2, Index: 7},
	}
	for i := range want {
		if got := Vars(p, 0); !slices.Equal(got, want[i:]) {
			t.Errorf("Vars: %v, wanted %v", got, want[i:])
		}
		if got, ok := Find(p, 0, "x"); !ok || got != want[i] {
			t.Errorf("Find: %v, %v, wanted %v", got, ok, want[i])
		}
		items[4+i].Kind = api.ItOut
	}
	if got, ok := Find(p, 0, "x"); ok || got != (api.Var{}) {
		t.Errorf("Find of none: %v, %v", got, ok)
	}
	p.Decls[0].Params = []api.Param{{Name: "x", Type: 2}, {Name: "x", Type: 1}, {Name: "", Type: 9}}
	if got, _ := Find(p, 0, "x"); got != (api.Var{Name: "x", Sort: api.VarParam, Type: 2}) {
		t.Errorf("Find: %v", got)
	}
	if got, _ := Find(p, 0, ""); got != (api.Var{Sort: api.VarParam, Type: 9, Index: 2}) {
		t.Errorf("Find: %v", got)
	}
	if got := Vars(p, 0); len(got) != 3 {
		t.Errorf("Vars: %v", got)
	}
}

func TestDecl(t *testing.T) { // P7.1
	p := read(t, "fun f(): fix = 1; node g(): fix { return 1; } hybrid m() { let n: fix = 1; } fun g(): fix = 2; fun f(): fix = 2; fun m(): fix = 2;")
	for s, want := range map[string]int{"f": 0, "g": 1, "m": 2, "n": -1, "": -1, "F": -1} {
		if got := Decl(p, s); got != want {
			t.Errorf("Decl(%q): %d", s, got)
		}
	}
	p.Decls[2].Name = ""
	if Decl(p, "") != 2 || Decl(p, "m") != 5 {
		t.Error("Decl of an empty name")
	}
	if Decl(api.Program{}, "") != -1 || Decl(api.Program{}, "f") != -1 {
		t.Error("Decl of nothing")
	}
}

func TestRoots(t *testing.T) { // P7.2
	p := read(t, whole)
	for d, want := range [][]int{{0}, {3, 4, 7}, nil} {
		if got := Roots(p, d); want != nil && !slices.Equal(got, want) {
			t.Errorf("Roots of %d: %v, wanted %v", d, got, want)
		}
	}
	items := p.Decls[2].Items
	want := []int{items[1].E, items[1].F, items[2].E, items[4].E, items[5].F, items[6].E, items[6].F, items[7].E, items[7].F, items[8].E}
	if got := Roots(p, 2); !slices.Equal(got, want) {
		t.Errorf("Roots: %v, wanted %v", got, want)
	}
	// Each kind of items, in each kind of declarations; one number as often as it is one's own.
	for kind := api.DeFun; kind <= api.DeHybrid; kind++ {
		for it := api.ItLet; it <= api.ItOut; it++ {
			x := api.Item{Kind: it}
			var want []int
			if slices.Contains([]int{1, 2, 3, 4, 5}, it) {
				x.E, want = 2, append(want, 2)
			}
			if slices.Contains([]int{2, 3, 5, 7}, it) {
				x.F, want = 1, append(want, 1)
			}
			d := api.Decl{Kind: kind, Items: []api.Item{x, x}}
			want = append(want, want...)
			if kind != api.DeHybrid {
				d.E, want = 2, append(want, 2)
			}
			p := api.Program{Exprs: []api.Expr{fix(1), fix(2), fix(3)}, Decls: []api.Decl{d}}
			if got := Roots(p, 0); !slices.Equal(got, want) {
				t.Errorf("Roots of kind %d with items of kind %d: %v, wanted %v", kind, it, got, want)
			}
		}
	}
}

func TestRight(t *testing.T) { // P7.2, P7.3, P7.4
	checkText(t, whole)
	checkText(t, "hybrid m() { }")
	checkText(t, "hybrid f(f: fix) { let m: fix = f; mode M {f, m, M}; from M.M on m goto f; out m; }")
	checkText(t, "hybrid m(u: fix) { let v: fix = f(u); } fun f(f: fix): fix = f(g()); node g(): fix { return f(g()); }")
	// What stands ahead of what makes its name; of types and what they are nothing is asked.
	checkText(t, "hybrid m() { out x; out x; reset x on y = y; on M is A set k = not x; from M.B on k goto B; let y: bool = M is B; mode M {A, B}; der x = k init x; mem k: fix init y; out k; out y; out x; }")
	// States are names of their own, and those of two modes each their own.
	checkText(t, "hybrid m(A: fix) { mode M {A, B}; mode N {B, A}; mode B {A}; let x: fix = if M is A and N is A and B is A then A else 1; from N.B on A goto A; }")
}

func TestFaultsOfPrograms(t *testing.T) { // P7.2, P7.4
	checkText(t, "", 0)
	checkText(t, "  fun f(): fix = 1;", 0)
	checkText(t, "  fun f(): fix = 1; node g(): fix { return f(); }", 0)
	checkText(t, "hybrid m() { } hybrid n() { } hybrid o() { }", 15, 30)
	checkText(t, "hybrid m() { } hybrid m() { }", 15)
	checkText(t, "fun m(): fix = 1; hybrid m() { }", 18)
	checkText(t, "hybrid m() { } node m(): fix { return 1; }", 15)
	checkText(t, "fun f(): fix = 1; fun f(): fix = 2; hybrid m() { } fun f(): fix = 3;", 18, 51)
	// One that is ahead, not one next to it.
	checkText(t, "fun f(): fix = 1; fun g(): fix = 2; hybrid m() { } fun f(): fix = 3;", 51)
	checkText(t, " fun f(a: fix): fix = b; fun f(): fix = a;", 0, 22, 25, 40)
}

func TestFaultsOfDeclarations(t *testing.T) { // P7.2
	checkText(t, "hybrid m() { } fun f(a: fix, b: fix, a: bool): fix = a;", 15)
	checkText(t, "hybrid m() { } node f(a: fix, a: fix, a: fix, a: fix): fix { return a; }", 15)
	checkText(t, "hybrid m(a: bool, b: bool, b: fix) { }", 0)
	checkText(t, "hybrid m() { } fun f(a: fix): fix = a; fun g(a: fix): fix = a;")
	checkText(t, "hybrid m() { } node g(a: fix): fix { let b: fix = 1; let a: fix = 1; let b: fix = b; return a; }", 53, 69)
	checkItems(t, "let a: fix = 1; let b: fix = 2; let a: fix = 3;", 32)
	checkItems(t, "der a = 1 init 0; mem a: fix init 1; mode a {A}; let a: fix = 1; der a = 2 init 0;", 18, 37, 49, 65)
	checkItems(t, "let u: fix = 1; der u = 1 init 0; mem u: fix init 1; mode w {A}; let v: fix = 1;", 0, 16, 34, 53)
	checkItems(t, "mode M {A, B, A}; mode N {A, B}; mode O {B, B, B, B};", 0, 33)
	checkItems(t, "mode u {A, A};", 0)
	// Of a name that is there twice the first one counts.
	checkItems(t, "mode M {A}; mode M {B}; let a: bool = M is A; let b: bool = M is B; from M.B on 1 goto A;", 12, 60, 68)
	checkItems(t, "der a = 1 init 0; mem a: fix init 1; reset a on 1 = 1; on 1 set a = 1;", 18, 55)
}

func TestFaultsOfItems(t *testing.T) { // P7.2
	const made = "let a: fix = 1; der x = 1 init 0; mem k: fix init 1; mode M {A, B}; mode N {C, A}; "
	check := func(s string, want bool) {
		t.Helper()
		if want {
			checkItems(t, made+s)
			checkItems(t, s+" "+made)
		} else {
			checkItems(t, made+s, len(made))
			checkItems(t, s+" "+made, 0)
		}
	}
	for s, sort := range map[string]string{"a": "let", "x": "der", "k": "mem", "M": "mode", "u": "param", "w": "param", "z": "none", "A": "none", "m": "none"} {
		check("reset "+s+" on 1 = 1;", sort == "der")
		check("on 1 set "+s+" = 1;", sort == "mem")
		check("from "+s+".A on 1 goto A;", sort == "mode")
		check("out "+s+";", sort == "let" || sort == "der" || sort == "mem")
	}
	for s, want := range map[string]bool{
		"M.A on 1 goto A": true, "M.A on 1 goto B": true, "M.B on 1 goto A": true, "M.A on 1 goto C": false, "M.C on 1 goto A": false, "M.C on 1 goto C": false,
		"N.C on 1 goto A": true, "N.C on 1 goto B": false, "N.B on 1 goto C": false, "M.M on 1 goto A": false, "N.a on 1 goto A": false, "N.A on 1 goto x": false,
	} {
		check("from "+s+";", want)
	}
}

func TestFaultsOfExpressions(t *testing.T) { // P7.2
	const made = "let a: fix = 1; der x = 1 init 0; mem k: fix init 1; mode M {A, B}; mode N {C, A}; let b: bool = "
	const called = " fun f(): fix = 1; fun g(a: fix, b: fix): fix = a; node n(a: fix): fix { return a; }"
	for s, want := range map[string]bool{
		"a": true, "b": true, "x": true, "k": true, "u": true, "w": true, "M": false, "z": false, "A": false, "f": false, "m": false,
		"M is A": true, "M is B": true, "N is C": true, "N is A": true, "M is C": false, "N is B": false, "M is M": false,
		"a is A": false, "x is A": false, "k is A": false, "u is A": false, "z is A": false, "A is A": false, "f is A": false,
		"f()": true, "f(1)": false, "g()": false, "g(1)": false, "g(1, 2)": true, "g(1, 2, 3)": false, "n(1)": true, "n()": false, "n(1, 2)": false,
		"m()": false, "m(1, 2)": false, "a()": false, "M()": false, "z()": false, "u()": false,
	} {
		head := "hybrid m(u: fix, w: bool) { " + made
		if want {
			checkText(t, head+s+"; }"+called)
		} else {
			checkText(t, head+s+"; }"+called, len(head))
		}
	}
}

// Each place where an expression stands is asked, and each part of it.
func TestEachPlace(t *testing.T) { // P7.2
	for s, want := range map[string][]int{
		"let a: fix = z;":                     {13},
		"der a = z init y;":                   {8, 15},
		"der a = 1 init 1; reset a on z = y;": {29, 33},
		"mem a: fix init z;":                  {16},
		"mem a: fix init 1; on z set a = y;":  {22, 32},
		"mode M {A}; from M.A on z goto A;":   {24},
	} {
		checkItems(t, s, want...)
	}
	checkText(t, "hybrid m() { } fun f(): fix = z;", 30)
	checkText(t, "hybrid m() { } node f(): fix { let a: fix = z; return y; }", 44, 54)
	for _, s := range []string{
		"-z", "not z", "pre z", "sqrt z", "z + y", "z - y", "z * y", "z / y", "z < y", "z <= y", "z == y", "z and y", "z or y", "z -> y", "z fby y",
		"if z then y else x", "f(z, y, x)", "(-(z + 1)) * f(1, 2, y)",
	} {
		p := read(t, "hybrid m() { let q: fix = "+s+"; } fun f(a: fix, b: fix, c: fix): fix = a;")
		var want []int
		for _, x := range p.Exprs[:len(p.Exprs)-1] {
			if x.Kind == api.ExName {
				want = append(want, x.At)
			}
		}
		slices.Sort(want)
		checkFaults(t, s, p, want...)
	}
}

// One declaration's names are not another one's; of declarations of one name the first one counts.
func TestScopes(t *testing.T) { // P7.2
	checkText(t, "hybrid m(u: fix) { mode M {A}; } node n(a: fix): bool { let b: fix = u; return M is A; }", 69, 79)
	checkText(t, "node n(a: fix): fix { let b: fix = a; return b; } hybrid m() { let c: fix = a + b; }", 76, 80)
	checkText(t, "fun f(): fix = 1; hybrid m() { let a: fix = f(); let b: fix = f(1); } fun f(a: fix): fix = a;", 62, 70)
	checkText(t, "hybrid f() { let a: fix = f(); } fun f(): fix = 1;", 26, 33)
	checkText(t, "fun f(): fix = 1; hybrid f() { let a: fix = f(); }", 18)
}

// What is in no text, but in a program that may be.
func TestStrangePrograms(t *testing.T) { // P7.2, rule 1
	hybrid := api.Decl{Kind: api.DeHybrid, Name: "m"}
	// An expression that none of them leads to is asked nothing; one that two lead to is asked of both.
	p := api.Program{Exprs: []api.Expr{at(name("a"), 5), at(name("z"), 6)}, Decls: []api.Decl{hybrid, {Kind: api.DeFun, Name: "f", At: 3}}}
	p.Decls[1].Params = []api.Param{{Name: "a"}}
	checkFaults(t, "an expression that is nobody's", p)
	p.Decls = append(p.Decls, api.Decl{Kind: api.DeFun, Name: "g"})
	checkFaults(t, "an expression of two", p, 5)
	p.Decls[1].Params[0].Name = "b"
	checkFaults(t, "an expression wrong in two", p, 5)
	// Items of a fun are asked, and make names.
	p = api.Program{Exprs: []api.Expr{at(name("x"), 5), at(fix(0), 6)}, Decls: []api.Decl{hybrid, {Kind: api.DeFun, Name: "f"}}}
	p.Decls[1].Items = []api.Item{{Kind: api.ItDer, Name: "x", E: 1, F: 1, At: 8}, {Kind: api.ItOut, Name: "x", At: 9}, {Kind: api.ItOut, Name: "y", At: 10}, {Kind: api.ItMem, Name: "k", E: 0, At: 11}}
	checkFaults(t, "items of a fun", p, 10)
	p.Decls[1].Items[0].Name = "k"
	checkFaults(t, "items of a fun", p, 5, 9, 10, 11)
	// Empty names are names; a mode may have no states.
	p = api.Program{Exprs: []api.Expr{fix(0)}, Decls: []api.Decl{{Kind: api.DeHybrid, At: 1, Items: []api.Item{{Kind: api.ItMode, At: 3}, {Kind: api.ItFrom, At: 4}}}}}
	checkFaults(t, "a mode without states", p, 4)
	p.Decls[0].Items[0].States = []string{""}
	checkFaults(t, "an empty state", p)
	p.Decls[0].Params = []api.Param{{}}
	checkFaults(t, "an empty parameter", p, 3, 4)
	p.Decls = append(p.Decls, api.Decl{Kind: api.DeHybrid, At: -7})
	checkFaults(t, "a place below", p, -7, 3, 4)
	// What has no states keeps those that it is given; others' States, State, Next are asked nothing.
	p = api.Program{Exprs: []api.Expr{fix(0)}, Decls: []api.Decl{{Kind: api.DeHybrid, Items: []api.Item{{Kind: api.ItLet, Name: "a", States: []string{"A", "A"}, State: "A", Next: "B"}, {Kind: api.ItFrom, Name: "a", State: "A", Next: "A", At: 5}}}}}
	checkFaults(t, "states of a let", p, 5)
	// Types are asked nothing.
	p.Decls[0].Items = []api.Item{{Kind: api.ItLet, Name: "a", Type: 9}, {Kind: api.ItOut, Name: "a"}}
	p.Decls[0].Params = []api.Param{{Name: "b", Type: -1}}
	checkFaults(t, "types", p)
}

// Of one place there is one fault.
func TestOnce(t *testing.T) { // P7.2, P7.3
	p := api.Program{Exprs: []api.Expr{at(name("z"), 4), at(name("y"), 4), at(call("q"), 3)}, Decls: []api.Decl{
		{Kind: api.DeFun, Name: "f", E: 0, At: 3, Params: []api.Param{{Name: "a"}, {Name: "a"}}}, {Kind: api.DeFun, Name: "f", E: 1, At: 3}, {Kind: api.DeNode, Name: "g", E: 2, At: 9, Items: []api.Item{{Kind: api.ItOut, Name: "h", At: 0}}},
	}}
	checkFaults(t, "two at one place", p, 0, 3, 4)
}

func TestOrder(t *testing.T) { // P7.3
	for _, c := range [][2][]api.Fault{
		{nil, nil}, {{}, {}}, {{{}}, {{}}}, {{{}, {}}, {{}}},
		{{{Code: 5, At: 3}, {Code: 4, At: 3}, {Code: 9, At: 1}, {Code: 4, At: 3}}, {{Code: 9, At: 1}, {Code: 4, At: 3}, {Code: 5, At: 3}}},
		{{{Code: 1, At: 2}, {Code: 1, At: 1}, {Code: 2, At: 1}, {Code: 1, At: 2}}, {{Code: 1, At: 1}, {Code: 2, At: 1}, {Code: 1, At: 2}}},
		{
			{{Code: math.MaxInt, At: 0}, {Code: 0, At: math.MaxInt}, {Code: -1, At: math.MinInt}, {Code: math.MinInt, At: 0}, {Code: 99, At: math.MinInt}},
			{{Code: -1, At: math.MinInt}, {Code: 99, At: math.MinInt}, {Code: math.MinInt, At: 0}, {Code: math.MaxInt, At: 0}, {Code: 0, At: math.MaxInt}},
		},
	} {
		if got := Order(c[0]); !slices.Equal(got, c[1]) {
			t.Errorf("Order(%v): %v, wanted %v", c[0], got, c[1])
		}
	}
	d := &drawer{state: 5}
	for range 2000 {
		var l, want []api.Fault
		for range d.below(40) {
			l = append(l, api.Fault{Code: api.Errno(d.below(4) - 1), At: d.below(6) - 1})
		}
		for at := -1; at < 5; at++ {
			for code := -1; code < 3; code++ {
				if f := (api.Fault{Code: api.Errno(code), At: at}); slices.Contains(l, f) {
					want = append(want, f)
				}
			}
		}
		if got := Order(l); !slices.Equal(got, want) {
			t.Fatalf("Order(%v): %v, wanted %v", l, got, want)
		}
	}
}

func TestOfNone(t *testing.T) { // P7.1, P7.2, P7.3
	right := api.Program{Exprs: []api.Expr{name("a"), one(api.ExNeg, 0)}, Decls: []api.Decl{
		{Kind: api.DeFun, Name: "f", Params: []api.Param{{Name: "a", Type: 1}}, Type: 1, E: 1}, {Kind: api.DeHybrid, Name: "m", Items: []api.Item{{Kind: api.ItMode, Name: "M"}}},
	}}
	ask := func(p api.Program, d int) bool {
		_, ok := Find(p, d, "a")
		return len(Vars(p, d)) > 0 || len(Roots(p, d)) > 0 || ok
	}
	if !ask(right, 0) || !ask(right, 1) || !Right(right) || Decl(right, "f") != 0 {
		t.Error("of one that is right")
	}
	for _, d := range []int{-1, 2, 3, math.MaxInt, math.MinInt} {
		if ask(right, d) {
			t.Errorf("of %d", d)
		}
	}
	for what, turn := range map[string]func(p *api.Program){
		"a declaration of kind 0":  func(p *api.Program) { p.Decls[1] = api.Decl{} },
		"a declaration of kind 4":  func(p *api.Program) { p.Decls[1] = api.Decl{Kind: 4} },
		"a declaration of kind -1": func(p *api.Program) { p.Decls[1] = api.Decl{Kind: -1} },
		"one declaration more":     func(p *api.Program) { p.Decls = append(p.Decls, api.Decl{Kind: math.MaxInt}) },
		"an item of kind 0":        func(p *api.Program) { p.Decls[1].Items[0].Kind = 0 },
		"an item of kind 9":        func(p *api.Program) { p.Decls[1].Items[0].Kind = 9 },
		"an item of kind -1":       func(p *api.Program) { p.Decls[1].Items[0].Kind = -1 },
		"a fun's item of kind 9":   func(p *api.Program) { p.Decls[0].Items = []api.Item{{Kind: 8}, {Kind: 9}} },
		"an E that isn't there":    func(p *api.Program) { p.Decls[0].E = 2 },
		"an E that it hasn't":      func(p *api.Program) { p.Decls[1].E = 1 },
		"an F that it hasn't":      func(p *api.Program) { p.Decls[1].Items[0].F = 1 },
		"a part of its own":        func(p *api.Program) { p.Exprs[1].A = 1 },
		"one expression more":      func(p *api.Program) { p.Exprs = append(p.Exprs, api.Expr{}) },
		"a name that is empty":     func(p *api.Program) { p.Exprs[0].Name = "" },
	} {
		p := api.Program{Exprs: slices.Clone(right.Exprs), Decls: slices.Clone(right.Decls)}
		p.Decls[1].Items = slices.Clone(p.Decls[1].Items)
		turn(&p)
		if ask(p, 0) || ask(p, 1) || Right(p) || len(Faults(p)) != 0 || Decl(p, "f") != -1 {
			t.Errorf("%s: %v, %v, %v, %d", what, ask(p, 0), Right(p), Faults(p), Decl(p, "f"))
		}
		// With a fault beside it, too.
		p.Decls[0].Name, p.Decls[0].Params = "m", append(p.Decls[0].Params, p.Decls[0].Params...)
		if Right(p) || len(Faults(p)) != 0 {
			t.Errorf("%s: %v", what, Faults(p))
		}
	}
}

// Programs drawn have the model's names and faults.
func TestAsModel(t *testing.T) { // P7.1, P7.2, P7.3, P7.4
	d := &drawer{state: 11}
	right, faults := 0, 0
	for i := range 12_000 {
		p := d.program([]int{0, 20, 60, 200, 600}[i%5])
		if !ast.May(p) {
			t.Fatalf("%v may not be", p)
		}
		want := modelFaults(p)
		if got := Faults(p); !slices.Equal(got, faultsAt(want)) {
			t.Fatalf("%v: faults %v, wanted at %v", p, got, want)
		}
		if Right(p) != (len(want) == 0) {
			t.Fatalf("%v: Right: %v", p, Right(p))
		}
		if len(want) == 0 {
			right++
		}
		faults += len(want)
		for k, x := range p.Decls {
			if got := Vars(p, k); !slices.Equal(got, modelVars(x)) {
				t.Fatalf("Vars: %v, wanted %v", got, modelVars(x))
			}
			if got := Roots(p, k); !slices.Equal(got, modelRoots(x)) {
				t.Fatalf("Roots: %v, wanted %v", got, modelRoots(x))
			}
			for _, s := range []string{"a", "b", "M", "N", "x", "f", "é", ""} {
				v, ok := modelFind(x, s)
				if got, found := Find(p, k, s); got != v || found != ok {
					t.Fatalf("Find(%q): %v, wanted %v", s, got, v)
				}
				if got := Decl(p, s); got != modelDecl(p, s) {
					t.Fatalf("Decl(%q): %d", s, got)
				}
			}
		}
	}
	if right < 2000 || faults < 10_000 {
		t.Errorf("%d were right, %d faults", right, faults)
	}
}

// Trees too deep for nested calls, and such as have too many numbers to be walked, are asked, too.
func TestGreatTrees(t *testing.T) { // P7.2, rule 1
	const deep = 300_000
	defer debug.SetMaxStack(debug.SetMaxStack(4 << 20))
	for _, next := range []func(i int) api.Expr{
		func(i int) api.Expr { return one(api.ExNeg, i) },
		func(i int) api.Expr { return two(api.ExAdd, i, i) },
		func(i int) api.Expr { return api.Expr{Kind: api.ExIf, A: i, B: i, C: i} },
		func(i int) api.Expr { return call("f", i, i) },
	} {
		l := []api.Expr{at(name("a"), 7)}
		for i := range deep {
			l = append(l, next(i))
		}
		p := api.Program{Exprs: l, Decls: []api.Decl{{Kind: api.DeHybrid, Name: "m"}, {Kind: api.DeFun, Name: "f", E: deep, Params: []api.Param{{Name: "a"}, {Name: "b"}}}}}
		checkFaults(t, "a great tree", p)
		p.Decls[1].Params[0].Name = "c"
		checkFaults(t, "a great tree", p, 7)
	}
}

// Many names, states and declarations are asked in few steps.
func TestManyNames(t *testing.T) { // P7.2, rule 1
	const many = 60_000
	var items []api.Item
	var states []string
	exprs := []api.Expr{fix(0)}
	decls := []api.Decl{{Kind: api.DeHybrid, Name: "m"}}
	for i := range many {
		s := "s" + strconv.Itoa(i)
		states = append(states, s)
		exprs = append(exprs, at(name("a"+s), i), at(api.Expr{Kind: api.ExIs, Name: "M", State: s}, i), at(call(s), i))
		for k := range 3 {
			items = append(items, api.Item{Kind: api.ItLet, Name: string("abc"[k]) + s, E: len(exprs) - 1 - k, At: i})
		}
		items = append(items, api.Item{Kind: api.ItFrom, Name: "M", State: s, Next: s, At: i})
		decls = append(decls, api.Decl{Kind: api.DeFun, Name: s, E: 0, At: i})
	}
	items = append(items, api.Item{Kind: api.ItMode, Name: "M", States: states})
	decls[0].Items = items
	p := api.Program{Exprs: exprs, Decls: decls}
	checkFaults(t, "many names", p)
	states[many-1] = "other"
	checkFaults(t, "many names", p, many-1)
}

// Nothing that is handed in is changed, or shared with an answer.
func TestMemory(t *testing.T) { // rule 5
	bytes := []byte("abc")
	shared := unsafe.String(unsafe.SliceData(bytes), len(bytes))
	build := func(s string) api.Program {
		items := []api.Item{{Kind: api.ItMode, Name: "M", States: []string{s, "B", "spare"}[:2]}, {Kind: api.ItFrom, Name: "M", State: s, Next: "B", F: 0}, {Kind: api.ItMem, Name: "k", E: 1}, {Kind: api.ItOut, Name: s, At: 4}, {Kind: api.ItOut, Name: "spare"}}[:4]
		params := []api.Param{{Name: s, Type: 1}, {Name: "spare", Type: 2}}[:1]
		return api.Program{Exprs: []api.Expr{name(s), call(s, []int{0, 77}[:1]...)}, Decls: []api.Decl{{Kind: api.DeHybrid, Name: "m", Params: params, Items: items}, {Kind: api.DeFun, Name: s, Params: params, E: 0}, {Name: "spare"}}[:2]}
	}
	p := build(shared)
	vars := Vars(p, 0)
	v, _ := Find(p, 0, "abc")
	faults, roots := Faults(p), Roots(p, 0)
	if Right(p) || Decl(p, "abc") != 1 || !slices.Equal(faults, faultsAt([]int{4})) {
		t.Errorf("%v, %v", Right(p), faults)
	}
	if q := build("abc"); !reflect.DeepEqual(p, q) || !reflect.DeepEqual(spare(p), spare(q)) {
		t.Error("what was handed in is changed")
	}
	clear(bytes)
	if v.Name != "abc" || vars[0].Name != "abc" || vars[1].Name != "M" || !slices.Equal(roots, []int{0, 1}) {
		t.Errorf("an answer shares what was handed in: %v, %v, %v", v, vars, roots)
	}
	l := []api.Fault{{Code: 2, At: 2}, {Code: 1, At: 1}, {Code: 2, At: 2}, {Code: 9, At: 9}}[:3]
	told := Order(l)
	told[0].At = 50
	if !slices.Equal(l[:4], []api.Fault{{Code: 2, At: 2}, {Code: 1, At: 1}, {Code: 2, At: 2}, {Code: 9, At: 9}}) {
		t.Errorf("Order has changed what was handed in: %v", l[:4])
	}
	again := Order(l[1:2])
	again[0].At = 50
	if l[1].At != 1 {
		t.Error("Order of one shares what was handed in")
	}
}

// spare is what lies behind the ends of a program's lists.
func spare(p api.Program) []any {
	d := p.Decls[0]
	return []any{p.Decls[:3][2], d.Params[:2][1], d.Items[:5][4], d.Items[0].States[:3][2], p.Exprs[1].Args[:2][1]}
}
