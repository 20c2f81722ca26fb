package calls

import (
	"math"
	"reflect"
	"runtime/debug"
	"slices"
	"strconv"
	"strings"
	"testing"
	"unsafe"

	"astrolabe/api"
	"astrolabe/kinds"
	"astrolabe/names"
	"astrolabe/parse"
	"astrolabe/types"
)

// read is the program of a text, right by its kinds.
func read(t *testing.T, s string) api.Program {
	t.Helper()
	p, fault := parse.Parse(s)
	if fault.Code != api.OK {
		t.Fatalf("%q: %v", s, fault)
	}
	checkKinds(t, s, p)
	return p
}

func checkKinds(t *testing.T, what string, p api.Program) {
	t.Helper()
	if !kinds.Right(p) {
		t.Fatalf("%s: faults of names %v, of types %v, of kinds %v", what, names.Faults(p), types.Faults(p), kinds.Faults(p))
	}
}

// faultsAt are faults of calls at these places.
func faultsAt(l []int) []api.Fault {
	var faults []api.Fault
	for _, at := range l {
		faults = append(faults, api.Fault{Code: api.ErrRecurse, At: at})
	}
	return faults
}

// checkFaults asks for a program's faults, whether it is right, and whether it has an order and sizes.
func checkFaults(t *testing.T, what string, p api.Program, want ...int) {
	t.Helper()
	checkKinds(t, what, p)
	if got := Faults(p); !slices.Equal(got, faultsAt(want)) {
		t.Errorf("%s: faults %v, wanted at %v", what, got, want)
	}
	right := len(want) == 0
	if Right(p) != right {
		t.Errorf("%s: Right: %v", what, Right(p))
	}
	if got := Order(p); right != (len(got) == len(p.Decls)) || !right && len(got) > 0 {
		t.Errorf("%s: Order: %v", what, got)
	}
	for d := range min(len(p.Decls), 10) {
		if !right && Size(p, d) != 0 {
			t.Errorf("%s: Size(%d): %d", what, d, Size(p, d))
		}
	}
}

// checkMarked asks for the faults of a text: each stands behind a mark !, which is taken out.
func checkMarked(t *testing.T, marked string) {
	t.Helper()
	var want []int
	pieces := strings.Split(marked, "!")
	s := pieces[0]
	for _, piece := range pieces[1:] {
		want = append(want, len(s))
		s += piece
	}
	checkFaults(t, s, read(t, s), want...)
}

// checkRows asks for what each declaration of a program calls, or reaches.
func checkRows(t *testing.T, what string, p api.Program, ask func(p api.Program, d int) []int, want ...[]int) {
	t.Helper()
	if len(want) != len(p.Decls) {
		t.Fatalf("%s: %d declarations", what, len(p.Decls))
	}
	for d := range want {
		if got := ask(p, d); !slices.Equal(got, want[d]) {
			t.Errorf("%s: of %d: %v, wanted %v", what, d, got, want[d])
		}
	}
}

func checkOrder(t *testing.T, s string, want ...int) {
	t.Helper()
	if got := Order(read(t, s)); !slices.Equal(got, want) {
		t.Errorf("%s: Order: %v, wanted %v", s, got, want)
	}
}

func checkSizes(t *testing.T, s string, want ...int) {
	t.Helper()
	p := read(t, s)
	for d, size := range want {
		if got := Size(p, d); got != size {
			t.Errorf("%s: Size(%d): %d, wanted %d", s, d, got, size)
		}
	}
}

// What the declarations called f, g, h, o and n are, for texts that call them.
const called = "fun f(a: fix): fix = a; node g(a: fix): fix { return a; } fun h(): fix = 1; fun o(a: bool): bool = a; node n(): bool { return true; } "

// Calls are met in each place of a declaration.
func TestCallsOfPlaces(t *testing.T) { // P10.1
	for s, want := range map[string][]int{
		"":                                    nil,
		"let z: fix = f(h());":                {0, 2},
		"let z: bool = o(true);":              {3},
		"der z = f(1) init 1;":                {0},
		"der z = 1 init h();":                 {2},
		"der z = h() init f(2);":              {0, 2},
		"mem z: fix init f(1);":               {0},
		"reset x on f(1) = 1;":                {0},
		"reset x on 1 = g(1);":                {1},
		"reset x on h() = g(f(1));":           {0, 1, 2},
		"on h() set k = 1;":                   {2},
		"on 1 set k = if n() then 1 else 2;":  {4},
		"on f(1) set k = h();":                {0, 2},
		"from M.A on f(h()) goto A;":          {0, 2},
		"out x;":                              nil,
		"let f: fix = 1; let z: fix = f + x;": nil,
		"let f: fix = 1; let z: fix = f(f);":  {0},
	} {
		p := read(t, called+"hybrid m() { der x = 1 init 0; mem k: fix init 0; mode M {A}; "+s+" }")
		checkRows(t, s, p, Calls, nil, nil, nil, nil, nil, want)
		checkRows(t, s, p, Reaches, nil, nil, nil, nil, nil, want)
		checkFaults(t, s, p)
	}
	p := read(t, "node a(): fix { let z: fix = c(); let y: fix = d(); return b(); } node b(): fix { return 1; } node c(): fix { let z: fix = d(); return 1; } fun d(): fix = e(); fun e(): fix = 1; hybrid m() { }")
	checkRows(t, "of nodes", p, Calls, []int{1, 2, 3}, nil, []int{3}, []int{4}, nil, nil)
	checkRows(t, "of nodes", p, Reaches, []int{1, 2, 3, 4}, nil, []int{3, 4}, []int{4}, nil, nil)
}

// Calls are met in each part of each kind of expressions.
func TestCallsOfParts(t *testing.T) { // P10.1
	for _, s := range []string{
		"-$", "sqrt $", "pre $", "$ + 1", "1 + $", "$ - 1", "1 - $", "$ * 1", "1 * $", "$ / 1", "1 / $", "$ -> 1", "1 -> $", "$ fby 1", "1 fby $",
		"if true then $ else 1", "if true then 1 else $", "if $ < 1 then 1 else 2", "if 1 < $ then 1 else 2", "if $ <= 1 then 1 else 2", "if 1 <= $ then 1 else 2",
		"if $ == 1 then 1 else 2", "if 1 == $ then 1 else 2", "if not ($ < 1) then 1 else 2", "if $ < 1 and true then 1 else 2", "if true and $ < 1 then 1 else 2",
		"if $ < 1 or true then 1 else 2", "if true or $ < 1 then 1 else 2", "two($, 1)", "two(1, $)", "-(1 + 2 * -(3 - sqrt ($ / 4)))",
	} {
		p := read(t, "fun f(): fix = 1; fun two(a: fix, b: fix): fix = a; node v(): fix { return "+strings.Replace(s, "$", "f()", 1)+"; } hybrid m() { }")
		want := []int{0}
		if strings.Contains(s, "two") {
			want = []int{0, 1}
		}
		checkRows(t, s, p, Calls, nil, nil, want, nil)
		checkRows(t, s, p, Reaches, nil, nil, want, nil)
	}
}

// What is called is told rising, each once, not in the order of the text; what another one calls is reached alone.
func TestCallsRising(t *testing.T) { // P10.1
	p := read(t, "hybrid m() { let z: fix = c(b(c(1))) + c(a(b(1))); } fun c(x: fix): fix = x; fun b(x: fix): fix = c(d(x)); fun a(x: fix): fix = x; fun d(x: fix): fix = a(x) + a(a(x));")
	checkRows(t, "calls", p, Calls, []int{1, 2, 3}, nil, []int{1, 4}, nil, []int{3})
	checkRows(t, "reaches", p, Reaches, []int{1, 2, 3, 4}, nil, []int{1, 3, 4}, nil, []int{3})
	p = read(t, "fun f(): fix = 1; fun g(): fix = f(); hybrid m() { let z: fix = g(); }")
	checkRows(t, "over two", p, Calls, nil, []int{0}, []int{1})
	checkRows(t, "over two", p, Reaches, nil, []int{0}, []int{0, 1})
	for _, d := range []int{-1, 3, 4, 64, math.MaxInt, math.MinInt} {
		if len(Calls(p, d)) != 0 || len(Reaches(p, d)) != 0 || Size(p, d) != 0 {
			t.Errorf("of %d: %v, %v, %d", d, Calls(p, d), Reaches(p, d), Size(p, d))
		}
	}
}

// What is recursive calls, and reaches, itself, and is told so.
func TestCallsOfItself(t *testing.T) { // P10.1
	p := read(t, "fun f(): fix = f(); hybrid m() { let z: fix = f(); } node g(): fix { return 1 -> h(); } node h(): fix { return g() + k(); } node k(): fix { return pre h(); } node l(): fix { return k(); }")
	checkRows(t, "calls", p, Calls, []int{0}, []int{0}, []int{3}, []int{2, 4}, []int{3}, []int{4})
	checkRows(t, "reaches", p, Reaches, []int{0}, []int{0}, []int{2, 3, 4}, []int{2, 3, 4}, []int{2, 3, 4}, []int{2, 3, 4})
}

// Faults stand at the calls that come back, and at no others.
func TestFaults(t *testing.T) { // P10.2
	for _, s := range []string{
		"hybrid m() { }",
		"fun f(a: fix): fix = !f(a); hybrid m() { }",
		"fun f(a: fix): fix = !f(!f(a) + 1) - !f(2); hybrid m() { let z: fix = f(1); }",
		"node f(a: fix): fix { return pre !f(a); } hybrid m() { }",
		"node f(a: fix): fix { let b: fix = !f(a); let c: fix = 0 fby !f(b); return 1; } hybrid m() { }",
		"fun f(a: fix): fix = !g(a); fun g(a: fix): fix = !f(!g(a)) + h(a); fun h(a: fix): fix = a; hybrid m() { mem k: fix init f(1); }",
		"fun f(): fix = !g() + i(); fun g(): fix = !h() + i(); fun h(): fix = !f() + i(); fun i(): fix = 1; fun j(): fix = f() + g() + h() + i(); hybrid m() { let z: fix = j() + f(); }",
		"fun h(): fix = !f(); hybrid m() { } fun f(): fix = !g(); fun g(): fix = !h();",
		"fun f(): fix = !f() + g(); fun g(): fix = !g() + h(); fun h(): fix = !h(); hybrid m() { let z: fix = f(); }",
		"fun f(): fix = !g() + h(); fun g(): fix = !f() + h(); fun h(): fix = !i(); fun i(): fix = !h(); hybrid m() { }",
		"fun f(): fix = !g() + !h(); fun g(): fix = !f(); fun h(): fix = !f() + !g(); hybrid m() { }",
		"node f(): fix { return !g(); } node g(): fix { let z: fix = h(!f()); return !f() -> h(1); } fun h(a: fix): fix = h2(a); fun h2(a: fix): fix = a; hybrid m() { on 1 set k = f(); mem k: fix init 0; }",
		"fun f(f: fix): fix = f; fun g(f: fix): fix = f(f); hybrid m() { let f: fix = g(f); let g: fix = f(g); }",
		"fun f(): fix = g() + h(); fun g(): fix = h(); fun h(): fix = 1; hybrid m() { let z: fix = f() + g() + h(); }",
	} {
		checkMarked(t, s)
	}
}

// What is called over several ways is right, unless one of them comes back.
func TestRight(t *testing.T) { // P10.2, P10.4
	const head = "hybrid m() { let z: fix = a() + b() + c() + d(); } "
	checkMarked(t, head+"fun a(): fix = b() + c(); fun b(): fix = d(); fun c(): fix = d(); fun d(): fix = 1;")
	checkMarked(t, head+"fun a(): fix = !b() + c(); fun b(): fix = !a() + d(); fun c(): fix = d(); fun d(): fix = 1;")
	checkMarked(t, head+"fun a(): fix = !b() + !c(); fun b(): fix = !d(); fun c(): fix = !d(); fun d(): fix = !a();")
}

// The least that can be told is told next, also one that has just come to be so.
func TestOrder(t *testing.T) { // P10.2
	checkOrder(t, "hybrid m() { }", 0)
	checkOrder(t, "fun f(): fix = 1; fun g(): fix = 2; hybrid m() { } fun h(): fix = 3;", 0, 1, 2, 3)
	checkOrder(t, "fun f(): fix = g(); fun g(): fix = h(); fun h(): fix = 1; hybrid m() { }", 2, 1, 0, 3)
	checkOrder(t, "hybrid m() { let z: fix = f(); } fun f(): fix = g(); fun g(): fix = h(); fun h(): fix = 1; fun i(): fix = 2;", 3, 2, 1, 0, 4)
	checkOrder(t, "fun a(): fix = e(); fun b(): fix = d(); hybrid m() { let z: fix = c(); } fun c(): fix = 1; fun d(): fix = 2; fun e(): fix = 3;", 3, 2, 4, 1, 5, 0)
	checkOrder(t, "fun a(): fix = d(); fun b(): fix = 1; fun c(): fix = a() + b(); fun d(): fix = b(); hybrid m() { }", 1, 3, 0, 2, 4)
	checkOrder(t, "node g(): fix { return 1 -> pre f(); } fun f(): fix = 1; hybrid m() { mem k: fix init f(); on 1 set k = g(); }", 1, 0, 2)
	// Nothing of a program that has a fault, whoever has it.
	checkOrder(t, "fun f(): fix = 1; fun g(): fix = g(); hybrid m() { }")
	checkOrder(t, "fun f(): fix = g(); fun g(): fix = f(); hybrid m() { } fun h(): fix = 1;")
}

// Each expression of a tree is 1; a call is what is called, too, each time.
func TestSize(t *testing.T) { // P10.3
	checkSizes(t, "hybrid m() { }", 0)
	checkSizes(t, "hybrid m() { out x; mode M {A, B}; der x = 1 init 0; }", 2)
	checkSizes(t, "node g(a: fix): fix { let n: fix = f(a) + h(f(1)); return n; } fun f(a: fix): fix = h(a); fun h(a: fix): fix = a * 2; hybrid m() { mem k: fix init f(1); on k set k = g(k); }", 20, 5, 3, 7+1+22)
	checkSizes(t, "fun f(): fix = 1; fun g(): fix = f() + f(); fun h(): fix = g() + g() + f(); hybrid m() { let z: fix = h(); let y: fix = h(); }", 1, 5, 2*6+2+2, 2*17)
	for s, want := range map[string]int{
		"let z: fix = 1;": 1, "let z: fix = u;": 1, "let z: bool = true;": 1, "let z: bool = M is A;": 1, "let z: fix = -u;": 2, "let z: fix = sqrt u;": 2, "let z: bool = not true;": 2,
		"let z: fix = u + 1;": 3, "let z: fix = u - 1;": 3, "let z: fix = u * 1;": 3, "let z: fix = u / 1;": 3, "let z: bool = u < 1;": 3, "let z: bool = u <= 1;": 3, "let z: bool = u == 1;": 3,
		"let z: bool = true and false;": 3, "let z: bool = true or false;": 3, "let z: fix = if true then 1 else 2;": 4, "let z: fix = (((u)));": 1,
		"let z: fix = o();": 2, "let z: fix = f(u);": 4, "let z: fix = f(f(u));": 7, "let z: fix = f(-(u + 1));": 7,
		"on 1 set k = pre u;": 3, "on 1 set k = 0 -> u;": 4, "on 1 set k = 0 fby u;": 4, "on 1 + 2 set k = f(1);": 7,
		"der z = -1 init 1 + 1;": 5, "mem z: fix init -1;": 2, "reset x on -1 = 1 + 2;": 5, "from M.A on -1 goto A;": 2, "out x;": 0,
		"let z: fix = 1; let y: fix = z + z;": 4,
	} {
		checkSizes(t, "hybrid m(u: fix) { der x = 1 init 0; mem k: fix init 0; mode M {A}; "+s+" } fun f(a: fix): fix = -a; fun o(): fix = 1;", 3+want, 2, 1)
	}
}

// powers are expressions whose trees have 1, 3, 7 and so on: one less than the next power of two.
func powers(count int) []api.Expr {
	l := []api.Expr{{Kind: api.ExFix}}
	for i := range count {
		l = append(l, api.Expr{Kind: api.ExAdd, A: i, B: i})
	}
	return l
}

// lets are those of a declaration whose own expressions are so much in all, of powers.
func lets(size int) []api.Item {
	var l []api.Item
	for e := 19; e >= 0; e-- {
		for whole := 1<<(e+1) - 1; size >= whole; size -= whole {
			l = append(l, api.Item{Kind: api.ItLet, Name: "z" + strconv.Itoa(len(l)), Type: 1, E: e})
		}
	}
	return l
}

// A declaration is 1,000,000 at most: its expressions, its calls, and all of them.
func TestSizeHeld(t *testing.T) { // P10.3
	const most = 1_000_000
	m := api.Decl{Kind: api.DeHybrid, Name: "m"}
	check := func(p api.Program, want ...int) {
		t.Helper()
		checkFaults(t, "held", p)
		for d, size := range want {
			if got := Size(p, d); got != size {
				t.Errorf("Size(%d): %d, wanted %d", d, got, size)
			}
		}
	}
	for _, size := range []int{0, 1, 1000, most / 2, most - 2, most - 1, most, most + 1, most + 2, 2*most - 1, 2 * most, 2*most + 1, 5_000_000} {
		m.Items = lets(size)
		check(api.Program{Exprs: powers(20), Decls: []api.Decl{m}}, min(size, most))
		// What calls it is 1 more, and 2 the second time.
		n := api.Decl{Kind: api.DeNode, Name: "n", Type: 1, E: 0, Items: lets(size)}
		f := api.Decl{Kind: api.DeNode, Name: "f", Type: 1, E: 21}
		g := api.Decl{Kind: api.DeNode, Name: "g", Type: 1, E: 22}
		exprs := append(powers(20), api.Expr{Kind: api.ExCall, Name: "n"}, api.Expr{Kind: api.ExAdd, A: 21, B: 21})
		check(api.Program{Exprs: exprs, Decls: []api.Decl{g, f, n, {Kind: api.DeHybrid, Name: "m"}}}, min(5+2*size, most), min(2+size, most), min(1+size, most), 0)
	}
	// One expression of so much, and such that would be beyond all numbers.
	for count, want := range map[int]int{18: 1<<19 - 1, 19: most, 20: most, 62: most, 63: most, 64: most, 2000: most} {
		m.Items = []api.Item{{Kind: api.ItLet, Name: "z", Type: 1, E: count}}
		check(api.Program{Exprs: powers(count), Decls: []api.Decl{m}}, want)
	}
	// A chain of calls, each of two of the next one: 1, 5, 13 and so on.
	p, want := api.Program{Exprs: []api.Expr{{Kind: api.ExFix}}}, []int{1}
	p.Decls = []api.Decl{{Kind: api.DeFun, Name: "f0", Type: 1, E: 0}}
	for i := 1; i <= 100; i++ {
		n := len(p.Exprs)
		p.Exprs = append(p.Exprs, api.Expr{Kind: api.ExCall, Name: "f" + strconv.Itoa(i-1)}, api.Expr{Kind: api.ExMul, A: n, B: n})
		p.Decls = append(p.Decls, api.Decl{Kind: api.DeFun, Name: "f" + strconv.Itoa(i), Type: 1, E: n + 1})
		want = append(want, min(3+2*want[i-1], most))
	}
	p.Decls = append(p.Decls, api.Decl{Kind: api.DeHybrid, Name: "m"})
	check(p, append(want, 0)...)
}

// What is in no text, but in a program that is right by its kinds.
func TestStrangePrograms(t *testing.T) { // P10.1, P10.2, P10.3
	// An expression that several have is of all of them: a fault where one of them is called by it, and one fault.
	p := api.Program{
		Exprs: []api.Expr{{Kind: api.ExFix, At: 1}, {Kind: api.ExCall, Name: "f", At: 2}, {Kind: api.ExAdd, A: 1, B: 1, At: 3}, {Kind: api.ExNeg, A: 0, At: 4}, {Kind: api.ExCall, Name: "g", At: 5}},
		Decls: []api.Decl{
			{Kind: api.DeFun, Name: "f", Type: 1, E: 0}, {Kind: api.DeFun, Name: "g", Type: 1, E: 2},
			{Kind: api.DeHybrid, Name: "m", Items: []api.Item{{Kind: api.ItDer, Name: "x", E: 2, F: 2}, {Kind: api.ItReset, Name: "x", E: 0, F: 1}}},
		},
	}
	checkFaults(t, "of several", p)
	checkRows(t, "of several", p, Calls, nil, []int{0}, []int{0})
	if Size(p, 0) != 1 || Size(p, 1) != 5 || Size(p, 2) != 13 {
		t.Errorf("sizes of what several have: %d, %d, %d", Size(p, 0), Size(p, 1), Size(p, 2))
	}
	p.Decls[0].E = 2
	checkFaults(t, "of several, and itself", p, 2)
	p.Decls[0].E = 4
	checkFaults(t, "of several, around", p, 2, 5)
	p.Decls[0].E, p.Exprs[3] = 3, api.Expr{Kind: api.ExNeg, A: 2, At: 7}
	checkFaults(t, "a part of several", p, 2)
	// What no declaration leads to calls nothing, and is no fault.
	p.Decls[0].E, p.Decls[1].E = 0, 0
	checkFaults(t, "nobody's", p)
	checkRows(t, "nobody's", p, Calls, nil, nil, []int{0})
	p.Decls[2].Items = nil
	p.Exprs[4].Name = "nobody"
	checkRows(t, "nobody's", p, Calls, nil, nil, nil)
	checkRows(t, "nobody's", p, Reaches, nil, nil, nil)
	// Items of a fun are its own, and all kinds of items of a node.
	for kind := api.DeFun; kind <= api.DeNode; kind++ {
		items := []api.Item{
			{Kind: api.ItLet, Name: "a", Type: 1, E: 1}, {Kind: api.ItDer, Name: "x", E: 2, F: 3}, {Kind: api.ItReset, Name: "x", E: 4, F: 5}, {Kind: api.ItMem, Name: "k", Type: 1, E: 6},
			{Kind: api.ItOn, Name: "k", E: 7, F: 8}, {Kind: api.ItMode, Name: "M", States: []string{"A"}}, {Kind: api.ItFrom, Name: "M", State: "A", Next: "A", F: 9},
		}
		p := api.Program{Exprs: []api.Expr{{Kind: api.ExFix}}, Decls: []api.Decl{{Kind: kind, Name: "f", Type: 1, E: 10, Items: items}, {Kind: api.DeHybrid, Name: "m"}, {Kind: api.DeFun, Name: "", Type: 1}}}
		var want, at []int
		for i := 1; i <= 10; i++ {
			name := "f" + strconv.Itoa(i)
			p.Exprs = append(p.Exprs, api.Expr{Kind: api.ExCall, Name: name, At: i})
			p.Decls = append(p.Decls, api.Decl{Kind: api.DeFun, Name: name, Type: 1})
			want, at = append(want, i+2), append(at, i)
		}
		checkFaults(t, "items", p)
		if got := Calls(p, 0); !slices.Equal(got, want) || Size(p, 0) != 20 {
			t.Errorf("items of kind %d: calls %v, size %d", kind, got, Size(p, 0))
		}
		for i := 1; i <= 10; i++ {
			p.Exprs[i].Name = "f"
		}
		if kind == api.DeFun {
			checkFaults(t, "items", p, at...)
		}
	}
}

// Faults rise by where they stand, not by where they are met; those of one place are one.
func TestFaultsInOrder(t *testing.T) { // P10.2
	build := func(at ...int) api.Program {
		p := api.Program{Exprs: []api.Expr{{Kind: api.ExFix}}, Decls: []api.Decl{{Kind: api.DeHybrid, Name: "m"}}}
		f := api.Decl{Kind: api.DeFun, Name: "f", Type: 1, Params: []api.Param{{Name: "a", Type: 1}}, E: len(at)}
		for i, at := range at {
			p.Exprs = append(p.Exprs, api.Expr{Kind: api.ExCall, Name: "f", Args: []int{i}, At: at})
		}
		p.Decls = append(p.Decls, f)
		return p
	}
	checkFaults(t, "of several places", build(5, 4, 5, -7, math.MaxInt, 0), -7, 0, 4, 5, math.MaxInt)
	checkFaults(t, "rising", build(1, 2, 3), 1, 2, 3)
	checkFaults(t, "falling", build(3, 2, 1), 1, 2, 3)
	checkFaults(t, "of one place", build(3, 3, 3), 3)
}

// checkNothing asks whether a program is as one that isn't right by its kinds.
func checkNothing(t *testing.T, what string, p api.Program) {
	t.Helper()
	if kinds.Right(p) {
		t.Errorf("%s: right", what)
	}
	for d := range p.Decls {
		if len(Calls(p, d)) != 0 || len(Reaches(p, d)) != 0 || Size(p, d) != 0 {
			t.Errorf("%s: of %d: %v, %v, %d", what, d, Calls(p, d), Reaches(p, d), Size(p, d))
		}
	}
	if len(Faults(p)) != 0 || Right(p) || len(Order(p)) != 0 {
		t.Errorf("%s: %v, %v, %v", what, Faults(p), Right(p), Order(p))
	}
}

// Of programs that aren't right by their kinds, types, or names, or may not be, there is nothing.
func TestNotRight(t *testing.T) { // P10.1, P10.2, P10.3
	right := read(t, "fun f(a: fix): fix = f(a); hybrid m(u: fix) { let z: fix = -1; mode M {A, B}; } fun g(a: fix): fix = f(a);")
	checkFaults(t, "right", right, 21)
	for what, turn := range map[string]func(p *api.Program){
		"a pre that stands smooth": func(p *api.Program) { p.Exprs[3].Kind = api.ExPre },
		"a node that stands so":    func(p *api.Program) { p.Decls[0].Kind = api.DeNode },
		"a let of another type":    func(p *api.Program) { p.Decls[1].Items[0].Type = api.TypeBool },
		"a fun of another type":    func(p *api.Program) { p.Decls[0].Type = api.TypeBool },
		"a name that is none":      func(p *api.Program) { p.Exprs[0].Name = "z" },
		"a call of none":           func(p *api.Program) { p.Exprs[1].Name = "z" },
		"a call of a hybrid":       func(p *api.Program) { p.Exprs[1].Name = "m" },
		"a call of too little":     func(p *api.Program) { p.Exprs[1].Args = nil },
		"two of one name":          func(p *api.Program) { p.Decls[2].Name = "f" },
		"no hybrid":                func(p *api.Program) { p.Decls[1].Kind, p.Decls[1].Type = api.DeNode, 1 },
		"an item that there isn't": func(p *api.Program) { p.Decls[1].Items[1].Kind = 9 },
		"a decl of no kind":        func(p *api.Program) { p.Decls = append(p.Decls, api.Decl{}) },
		"a part of its own":        func(p *api.Program) { p.Exprs[1].Args = []int{1} },
		"an E that isn't there":    func(p *api.Program) { p.Decls[0].E = 6 },
		"one expression more":      func(p *api.Program) { p.Exprs = append(p.Exprs, api.Expr{}) },
	} {
		p := api.Program{Decls: slices.Clone(right.Decls), Exprs: slices.Clone(right.Exprs)}
		p.Decls[1].Items = slices.Clone(p.Decls[1].Items)
		turn(&p)
		checkNothing(t, what, p)
	}
	checkNothing(t, "nothing", api.Program{})
	none := api.Program{}
	if len(Calls(none, 0)) != 0 || len(Reaches(none, 0)) != 0 || Size(none, 0) != 0 {
		t.Error("of nothing")
	}
	p, fault := parse.Parse("hybrid m() { der x = pre x init 0; } fun f(): fix = f();")
	if fault.Code != api.OK {
		t.Fatal(fault)
	}
	checkNothing(t, "a fault of kinds, and a call of itself", p)
}

// checkDrawn asks for all of a drawn program as the model has it.
func checkDrawn(t *testing.T, p api.Program) {
	t.Helper()
	checkFaults(t, "drawn", p, modelFaults(p)...)
	order := modelOrder(p)
	right := len(order) == len(p.Decls)
	if right != Right(p) {
		t.Errorf("right: %v, an order of %v", Right(p), order)
	}
	if got := Order(p); right && !slices.Equal(got, order) {
		t.Errorf("Order: %v, wanted %v", got, order)
	}
	for d := range p.Decls {
		if got := Calls(p, d); !slices.Equal(got, modelCalls(p, d)) {
			t.Errorf("Calls(%d): %v", d, got)
		}
		if got := Reaches(p, d); !slices.Equal(got, modelReaches(p, d)) {
			t.Errorf("Reaches(%d): %v", d, got)
		}
		if got := Size(p, d); right && got != modelSize(p, d) {
			t.Errorf("Size(%d): %d", d, got)
		}
	}
}

// Programs drawn call, reach, have faults, an order and sizes as the model has it.
func TestAsModel(t *testing.T) { // P10.1, P10.2, P10.3, P10.4
	d := &drawer{state: 10}
	right, faults := 0, 0
	for i := range 1500 {
		p := d.program([]int{0, 0, 20, 100, 400}[i%5])
		checkDrawn(t, p)
		if Right(p) {
			right++
		}
		faults += len(Faults(p))
		if t.Failed() {
			t.Fatalf("%v", p)
		}
	}
	if right < 600 || right > 1200 || faults < 1500 {
		t.Errorf("%d were right, %d faults", right, faults)
	}
}

// Trees too deep for nested calls, and such as have too many numbers to be walked, are asked, too.
func TestGreatTrees(t *testing.T) { // P10.1, P10.2, P10.3, rule 1
	const deep = 50_000
	defer debug.SetMaxStack(debug.SetMaxStack(2 << 20))
	for i, next := range []func(i int) api.Expr{
		func(i int) api.Expr { return api.Expr{Kind: api.ExNeg, A: i} },
		func(i int) api.Expr { return api.Expr{Kind: api.ExAdd, A: i, B: i} },
		func(i int) api.Expr { return api.Expr{Kind: api.ExIf, A: 1, B: i, C: i} },
		func(i int) api.Expr { return api.Expr{Kind: api.ExCall, Name: "g", Args: []int{i, i}} },
	} {
		l := []api.Expr{{Kind: api.ExFix}, {Kind: api.ExBool, V: 1}, {Kind: api.ExCall, Name: "f", Args: []int{0, 0}, At: 8}}
		for i := range deep {
			l = append(l, next(i+2))
		}
		params := []api.Param{{Name: "a", Type: 1}, {Name: "b", Type: 1}}
		p := api.Program{Exprs: l, Decls: []api.Decl{
			{Kind: api.DeHybrid, Name: "m", Items: []api.Item{{Kind: api.ItLet, Name: "z", Type: 1, E: len(l) - 1}}},
			{Kind: api.DeFun, Name: "f", Type: 1, Params: params}, {Kind: api.DeFun, Name: "g", Type: 1, Params: params},
		}}
		calls, size := []int{1}, 1_000_000
		if i == 0 {
			size = 4 + deep
		}
		if i == 3 {
			calls = []int{1, 2}
		}
		checkFaults(t, "a great tree", p)
		checkRows(t, "a great tree", p, Calls, calls, nil, nil)
		checkRows(t, "a great tree", p, Reaches, calls, nil, nil)
		if Size(p, 0) != size || Size(p, 1) != 1 {
			t.Errorf("the size of a great tree: %d, %d", Size(p, 0), Size(p, 1))
		}
		p.Decls[1].E = len(l) - 1
		checkFaults(t, "a great tree that calls itself", p, 8)
	}
}

// Many items and arguments are asked in few steps, and so are as many declarations as a text may have.
func TestMany(t *testing.T) { // P10.1, P10.2, P10.3, rule 1
	const many = 50_000
	m, f := api.Decl{Kind: api.DeHybrid, Name: "m"}, api.Decl{Kind: api.DeFun, Name: "f", Type: 1}
	wide := api.Expr{Kind: api.ExCall, Name: "f", At: many}
	p := api.Program{Exprs: []api.Expr{{Kind: api.ExFix}}}
	var at []int
	for i := range many {
		s := strconv.Itoa(i)
		f.Params = append(f.Params, api.Param{Name: s, Type: 1})
		m.Items = append(m.Items, api.Item{Kind: api.ItLet, Name: s, Type: 1, E: i + 1})
		wide.Args = append(wide.Args, i+1)
		p.Exprs = append(p.Exprs, api.Expr{Kind: api.ExCall, Name: "g", At: i})
		at = append(at, i)
	}
	p.Exprs = append(p.Exprs, wide)
	f.E = many + 1
	p.Decls = []api.Decl{m, f, {Kind: api.DeFun, Name: "g", Type: 1}}
	checkFaults(t, "many arguments", p, many)
	checkRows(t, "many arguments", p, Calls, []int{2}, []int{1, 2}, nil)
	p.Decls[2].E = many + 1
	checkFaults(t, "many arguments", p, append(at, many)...)
	p.Decls[1].E, p.Decls[2].E = 0, 0
	checkFaults(t, "many items", p)
	if got := Size(p, 0); got != 2*many {
		t.Errorf("the size of many items: %d", got)
	}
}

// ring is the text of a hybrid, and of functions each of which calls the one that is so many steps on, but for the last one of these, if there is one; and where those calls stand.
func ring(count, step, last int) (string, []int) {
	s, at := "hybrid m() { }", []int(nil)
	for i := range count {
		s += "fun f" + strconv.Itoa(i) + "(): fix = "
		if i == last {
			s += "1;"
			continue
		}
		at = append(at, len(s))
		s += "f" + strconv.Itoa((i+step)%count) + "();"
	}
	return s, at
}

// As many functions as a text may have, in a ring, or in a chain: each calls the one behind it, or the one ahead.
func TestManyDeclarations(t *testing.T) { // P10.1, P10.2, P10.3
	const count = 600
	for _, step := range []int{1, count - 1} {
		s, at := ring(count, step, -1)
		checkRing(t, read(t, s), at)
	}
	behind, _ := ring(count, 1, count-1)
	checkChain(t, read(t, behind), false)
	ahead, _ := ring(count, count-1, 0)
	checkChain(t, read(t, ahead), true)
}

// checkRing asks a program of a hybrid and functions each of which calls the next one.
func checkRing(t *testing.T, p api.Program, at []int) {
	t.Helper()
	checkFaults(t, "a ring", p, at...)
	for _, d := range []int{1, 63, 64, 65, len(p.Decls) - 1} {
		if got := Reaches(p, d); len(got) != len(p.Decls)-1 || got[0] != 1 {
			t.Errorf("a ring: %d reaches %d", d, len(got))
		}
	}
}

// checkChain asks a program of a hybrid and functions each of which calls the one behind it, or ahead.
func checkChain(t *testing.T, p api.Program, falling bool) {
	t.Helper()
	checkFaults(t, "a chain", p)
	count := len(p.Decls) - 1
	want := []int{0}
	for i := range count {
		if falling {
			want = append(want, i+1)
		} else {
			want = append(want, count-i)
		}
	}
	if got := Order(p); !slices.Equal(got, want) {
		t.Errorf("a chain: order %v", got)
	}
	for i, d := range want[1:] {
		if i%127 != 0 {
			continue
		}
		told := slices.Sorted(slices.Values(want[1 : i+1]))
		if got := Reaches(p, d); !slices.Equal(got, told) || Size(p, d) != i+1 {
			t.Errorf("a chain: %d reaches %v, is %d", d, got, Size(p, d))
		}
	}
}

// Nothing that is handed in is changed, or shared with an answer.
func TestMemory(t *testing.T) { // rule 5
	build := func() api.Program {
		items := []api.Item{{Kind: api.ItLet, Name: "z", Type: 1, E: 1}, {Kind: api.ItOut, Name: "spare"}}[:1]
		params := []api.Param{{Name: "u", Type: 1}, {Name: "spare", Type: 2}}[:1]
		exprs := []api.Expr{{Kind: api.ExFix, At: 4}, {Kind: api.ExCall, Name: "g", Args: []int{0, 77}[:1], At: 3}, {Kind: api.ExBool, V: 9}}[:2]
		return api.Program{Exprs: exprs, Decls: []api.Decl{{Kind: api.DeHybrid, Name: "m", Params: params, Items: items}, {Kind: api.DeFun, Name: "g", Type: 1, Params: params, E: 0}, {Name: "spare"}}[:2]}
	}
	p := build()
	for _, ask := range []func() []int{func() []int { return Calls(p, 0) }, func() []int { return Reaches(p, 0) }, func() []int { return Order(p) }} {
		l := ask()
		want := slices.Clone(l)
		if len(l) == 0 {
			t.Fatal("nothing to ask")
		}
		l[0] = 50
		if other := ask(); !slices.Equal(other, want) || unsafe.SliceData(other) == unsafe.SliceData(l) {
			t.Errorf("%v, wanted %v", other, want)
		}
	}
	if !Right(p) || Size(p, 0) != 3 || len(Faults(p)) != 0 {
		t.Errorf("%v, %d, %v", Right(p), Size(p, 0), Faults(p))
	}
	if q := build(); !reflect.DeepEqual(p, q) || !reflect.DeepEqual(spare(p), spare(q)) {
		t.Error("what was handed in is changed")
	}
	p.Decls[1].E = 1
	faults := Faults(p)
	if !slices.Equal(faults, faultsAt([]int{3})) {
		t.Errorf("%v", faults)
	}
	faults[0].At = 50
	if !slices.Equal(Faults(p), faultsAt([]int{3})) {
		t.Error("an answer is shared with another one")
	}
}

// spare is what lies behind the ends of a program's lists.
func spare(p api.Program) []any {
	d := p.Decls[0]
	return []any{p.Decls[:3][2], d.Params[:2][1], d.Items[:2][1], p.Exprs[:3][2], p.Exprs[1].Args[:2][1]}
}
