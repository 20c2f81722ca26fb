package caus

import (
	"math"
	"reflect"
	"runtime/debug"
	"slices"
	"strconv"
	"strings"
	"testing"
	"unsafe"

	"astrolabe/api"
	"astrolabe/calls"
	"astrolabe/kinds"
	"astrolabe/names"
	"astrolabe/parse"
	"astrolabe/types"
)

// read is the program of a text, right by its calls.
func read(t *testing.T, s string) api.Program {
	t.Helper()
	p, fault := parse.Parse(s)
	if fault.Code != api.OK {
		t.Fatalf("%q: %v", s, fault)
	}
	checkCalls(t, s, p)
	return p
}

func checkCalls(t *testing.T, what string, p api.Program) {
	t.Helper()
	if !calls.Right(p) {
		t.Fatalf("%s: faults of names %v, of types %v, of kinds %v, of calls %v", what, names.Faults(p), types.Faults(p), kinds.Faults(p), calls.Faults(p))
	}
}

// faultsAt are faults of causes at these places.
func faultsAt(l []int) []api.Fault {
	var faults []api.Fault
	for _, at := range l {
		faults = append(faults, api.Fault{Code: api.ErrCause, At: at})
	}
	return faults
}

// checkFaults asks for a program's faults, whether it is right, and whether its declarations have orders, of all of their lets.
func checkFaults(t *testing.T, what string, p api.Program, want ...int) {
	t.Helper()
	checkCalls(t, what, p)
	if got := Faults(p); !slices.Equal(got, faultsAt(want)) {
		t.Errorf("%s: faults %v, wanted at %v", what, got, want)
	}
	right := len(want) == 0
	if Right(p) != right {
		t.Errorf("%s: Right: %v", what, Right(p))
	}
	for d := range min(len(p.Decls), 10) {
		all := modelLets(p, d)
		if !right {
			all = nil
		}
		if got := Order(p, d); !slices.Equal(slices.Sorted(slices.Values(got)), all) {
			t.Errorf("%s: Order(%d): %v", what, d, got)
		}
	}
}

// checkMarked asks for the faults of a text: each stands behind a mark !, which is taken out.
func checkMarked(t *testing.T, marked string) {
	t.Helper()
	var want []int
	pieces := strings.Split(marked, "!")
	s := pieces[0]
	for _, piece := range pieces[1:] {
		want = append(want, len(s))
		s += piece
	}
	checkFaults(t, s, read(t, s), want...)
}

// checkOrder asks for the order of the first declaration of a text.
func checkOrder(t *testing.T, s string, want ...int) {
	t.Helper()
	if got := Order(read(t, s), 0); !slices.Equal(got, want) {
		t.Errorf("%s: Order: %v, wanted %v", s, got, want)
	}
}

func checkAsks(t *testing.T, what string, p api.Program, e int, want ...string) {
	t.Helper()
	if got := Asks(p, e); !slices.Equal(got, want) {
		t.Errorf("%s: %d asks for %q, wanted %q", what, e, got, want)
	}
}

// What there is beside a node, or a hybrid, of one let.
const rest = " fun f(a: fix): fix = a; fun two(a: fix, b: fix): fix = a; node g(a: fix, b: fix): fix { return a; } fun o(a: bool): bool = a;"

// A name is asked for at once in each part of each kind of expressions, but for those that are delayed.
func TestAsks(t *testing.T) { // P11.1
	for s, want := range map[string]string{
		"1": "", "a": "a", "-a": "a", "sqrt a": "a", "(a)": "a", "a + b": "a b", "b + a": "b a", "a - b": "a b", "a * b": "a b", "a / b": "a b", "f(a)": "a", "two(b, a)": "b a", "f(f(a))": "a",
		"if v then a else b": "v a b", "if w then b else a": "w b a", "if a < b then 1 else 2": "a b", "if a <= b then 1 else 2": "a b", "if a == b then 1 else 2": "a b", "if not v then 1 else 2": "v",
		"if v and w then 1 else 2": "v w", "if w or v then c else 2": "w v c", "if o(v) == w then 1 else 2": "v w", "if true then 1 else 2": "",
		"pre a": "", "pre (a + b)": "", "pre pre a": "", "-pre a": "", "pre -a": "", "a + pre b": "a", "pre a + b": "b", "pre f(a) + f(b)": "b", "if pre v then a else pre b": "a",
		"a fby b": "a", "1 fby b": "", "a fby 1": "a", "(a + b) fby (c + d)": "a b", "a fby b fby c": "a", "(a fby b) fby c": "a", "1 fby (a fby b)": "", "a fby (b + a)": "a", "a + (b fby c)": "a b",
		"a -> b": "a b", "b -> a": "b a", "a -> pre b": "a", "pre a -> b": "b", "a -> b -> c": "a b c", "a -> b fby c": "a b", "(a -> b) fby (c -> d)": "a b", "1 -> (2 fby a)": "",
		"pre (a -> b)": "", "pre (a fby b)": "", "(pre a) fby b": "", "a fby pre b": "a", "1 -> pre (1 -> pre a)": "",
		"g(a, b)": "a b", "g(pre a, b)": "b", "g(a, b fby c)": "a b", "pre g(a, b)": "", "g(g(a, 1), 1 fby g(b, c))": "a", "1 fby g(a, b)": "",
	} {
		p := read(t, "node n(a: fix, b: fix, c: fix, d: fix, v: bool, w: bool): fix { let z: fix = "+s+"; return z; }"+rest+" hybrid m() { }")
		checkAsks(t, s, p, p.Decls[0].Items[0].E, strings.Fields(want)...)
		checkFaults(t, s, p)
	}
}

// What is asked for is asked by names alone, each sort of them: a mode, a state, and what is called are none.
func TestAsksNames(t *testing.T) { // P11.1
	for s, want := range map[string]string{
		"if M is A then f(u) else f(x)":                    "u x",
		"if M is M and not (f is f) then k else two(y, u)": "k y u",
		"f(k) + f(k) * k":                                  "k",
		"x + y + x + u + y + k + u":                        "x y u k",
		"two(two(k, y), two(y, x))":                        "k y x",
	} {
		p := read(t, "hybrid m(u: fix) { let z: fix = "+s+"; der x = 1 init 0; let y: fix = 1; mem k: fix init 0; mode M {A, M}; mode f {f}; }"+rest)
		checkAsks(t, s, p, p.Decls[0].Items[0].E, strings.Fields(want)...)
	}
}

// Names are told by the least number at which one stands that isn't delayed, not as a walk meets them.
func TestAsksInOrder(t *testing.T) { // P11.1
	name := func(s string) api.Expr { return api.Expr{Kind: api.ExName, Name: s} }
	of := func(kind, a, b int) api.Expr { return api.Expr{Kind: kind, A: a, B: b} }
	p := api.Program{
		Exprs: []api.Expr{
			name("a"), name("b"), name("c"), name("b"), of(api.ExAdd, 3, 2), of(api.ExSub, 4, 1), // 5: (b + c) - b
			of(api.ExMul, 5, 0), of(api.ExPre, 0, 0), of(api.ExAdd, 7, 5), name("a"), of(api.ExAdd, 8, 9), // 10: (pre a + ..) + a
			of(api.ExFby, 0, 0), of(api.ExFby, 1, 5), of(api.ExArrow, 12, 7), of(api.ExAdd, 7, 0), of(api.ExFby, 14, 14), of(api.ExPre, 15, 0),
			{Kind: api.ExCall, Name: "g", Args: []int{12, 0, 2, 12}}, {Kind: api.ExCall, Name: "nobody", Args: []int{16, 2}}, {Kind: api.ExIf, A: 7, B: 2, C: 1}, of(api.ExNeg, 18, 0),
		},
		Decls: []api.Decl{{Kind: api.DeHybrid, Name: "m"}},
	}
	checkFaults(t, "of hand", p)
	for e, want := range []string{
		"a", "b", "c", "b", "c b", "b c",
		"a b c", "", "b c", "a", "b c a",
		"a", "b", "b", "a", "a", "",
		"a b c", "c", "b c", "c",
	} {
		checkAsks(t, "of hand", p, e, strings.Fields(want)...)
	}
	// Of numbers without an expression nothing, also where one lies behind the list's end.
	p.Exprs = p.Exprs[:6]
	for _, e := range []int{-1, 6, 7, 64, math.MaxInt, math.MinInt} {
		checkAsks(t, "none", p, e)
	}
}

// Asks tells of a program with lets that hang on themselves, too.
func TestAsksOfFaults(t *testing.T) { // P11.1
	p := read(t, "hybrid m() { let a: fix = b + a; let b: fix = a; }")
	checkFaults(t, "asks", p, 13, 33)
	checkAsks(t, "asks", p, 2, "b", "a")
	checkAsks(t, "asks", p, 3, "a")
}

// Faults stand at the lets that hang on themselves, and at no others.
func TestFaults(t *testing.T) { // P11.2
	const node, end = "node n(u: fix): fix { ", " return 1; } hybrid m() { }"
	for _, s := range []string{
		"",
		"!let a: fix = a;",
		"!let a: fix = -(1 + f(a) * 2);",
		"!let a: fix = a + a; let b: fix = a;",
		"let a: fix = u; let b: fix = a; let c: fix = a + b;",
		"let c: fix = a + b; let b: fix = a; let a: fix = u;",
		"!let a: fix = b; !let b: fix = a;",
		"!let x: fix = y; !let y: fix = x;",
		"let x: fix = y; let y: fix = pre x;",
		"let x: fix = pre y; let y: fix = x;",
		"let x: fix = pre y; let y: fix = pre x;",
		"let a: fix = pre a;",
		"let a: fix = 0 -> pre a;",
		"let a: fix = 0 fby a;",
		"let a: fix = 0 fby a + 1;",
		"!let a: fix = a fby 1;",
		"!let a: fix = a fby a;",
		"!let a: fix = 0 -> a;",
		"!let a: fix = a -> 0;",
		"!let a: fix = pre a + a;",
		"!let a: fix = (0 fby a) + (a fby 0);",
		"!let a: fix = 0 -> pre b + a; let b: fix = a;",
		"let a: fix = b fby 1; let b: fix = 1 fby a;",
		"!let a: fix = b fby 1; !let b: fix = a -> 1;",
		"!let a: fix = if a < 1 then 1 else 2;",
		"!let a: fix = if 1 < 2 then a else 2;",
		"!let a: fix = if 1 < 2 then 1 else a;",
		"!let a: bool = not a or true;",
		"!let a: fix = if b then 1 else 2; !let b: bool = 1 <= a;",
		"!let a: fix = g(a, 1);",
		"!let a: fix = g(1, pre b) + g(1, a); let b: fix = a;",
		"let a: fix = g(pre a, 1 fby a);",
		"let a: fix = pre g(a, a);",
		// What leads to a ring, or what a ring leads to, isn't in it, nor what lies between two.
		"let a: fix = b; !let b: fix = c; !let c: fix = b + d; let d: fix = u;",
		"let z: fix = a; !let a: fix = b; !let b: fix = c; !let c: fix = a;",
		"!let a: fix = b + c; !let b: fix = a; let c: fix = d; !let d: fix = e; !let e: fix = d + g; let g: fix = h; !let h: fix = h;",
		"let h: fix = i; let g: fix = h; !let d: fix = e; !let e: fix = d + g; let c: fix = d; !let a: fix = b + c; !let b: fix = a; let i: fix = 1;",
		"!let a: fix = b + c; !let b: fix = d; !let c: fix = d; !let d: fix = a;",
		"!let a: fix = b + c; !let b: fix = a; !let c: fix = a;",
		"!let a: fix = b; !let b: fix = c + a; !let c: fix = d + b; !let d: fix = e + c; !let e: fix = d;",
		"let a: fix = b + c; let b: fix = d; let c: fix = d + b; let d: fix = 1;",
		"!let a: fix = c; let b: fix = c; !let c: fix = d; !let d: fix = a; let e: fix = b + d;",
		"!let a: fix = b; !let b: fix = a; !let c: fix = d; !let d: fix = c;",
		"!let a: fix = b + d; !let b: fix = c; !let c: fix = b + a; let d: fix = pre a; let e: fix = d;",
		// What is delayed leads nowhere.
		"let a: fix = b; let b: fix = c; let c: fix = 1 fby a;",
		"let a: fix = b; let b: fix = c -> d; let c: fix = pre d; let d: fix = pre pre a;",
		"!let a: fix = b; !let b: fix = c; !let c: fix = (1 fby a) + (1 -> a);",
	} {
		checkMarked(t, node+s+end+rest)
	}
}

// Lets alone hang: parameters, ders, mems, and what other declarations have by the same name don't, nor do expressions that are no let's.
func TestFaultsOfDeclarations(t *testing.T) { // P11.2
	for _, s := range []string{
		"hybrid m() { }",
		"hybrid m() { der x = z init 0; let z: fix = y; let y: fix = x; }",
		"hybrid m() { der x = x init 0; mem k: fix init 0; on k set k = k + x; reset x on x = x; let z: fix = x + k; out z; }",
		"hybrid m() { der x = y init 0; der y = x init 0; let z: fix = x; mem k: fix init 1; on z set k = k + z; let w: fix = k; }",
		"hybrid m(u: fix) { !let z: fix = y + u; !let y: fix = z; der x = z init 0; on z set k = y; mem k: fix init 0; }",
		"hybrid m(u: fix) { let a: fix = u; let u2: fix = a; mode a2 {a}; }",
		"fun f(a: fix): fix = a; hybrid m() { let f: fix = f(1); let g: fix = f(2); } node g(a: fix): fix { let f: fix = f(a); let g: fix = g2(f); return f; } node g2(a: fix): fix { return a; }",
		"fun f(a: fix): fix = a; hybrid m() { !let f: fix = f(f); let g: fix = f(1); }",
		"node g(b: fix): fix { let a: fix = b; return a; } hybrid m(a: fix) { let b: fix = a; }",
		"node g(a: fix): fix { let b: fix = a; return b; } node h(b: fix): fix { let a: fix = b; return a; } hybrid m(a: fix, b: fix) { let c: fix = a + b; } node k(): fix { !let a: fix = b; !let b: fix = a; return 1; }",
		"fun g(a: fix): fix = 1; hybrid m(u: fix) { !let z: fix = g(z); }",
		"node g(a: fix): fix { return pre a; } hybrid m(u: fix) { mem k: fix init 0; on u set k = g(z); let z: fix = k; }",
		"node g(a: fix): fix { return 0 -> pre a; } node h(): fix { !let z: fix = g(z); return z; } hybrid m() { }",
		"node g(): fix { let b: fix = 1 fby c; let c: fix = b; return c; } hybrid m() { !let b: fix = c; !let c: fix = b; } node h(): fix { !let b: fix = b; return 1; }",
		"hybrid m() { let a: fix = if M is A then b else c; mode M {A, a}; let b: fix = if M is a then 1 else 2; let c: fix = b; }",
		"hybrid m() { !let a: bool = M is A and b; mode M {A, B}; !let b: bool = M is B or a; }",
	} {
		checkMarked(t, s)
	}
}

// The first let that can be done is done next, also one that has just come to be so.
func TestOrder(t *testing.T) { // P11.2, P11.3
	const tail = "; return 1; } hybrid m() { }" + rest
	for s, want := range map[string][]int{
		"let a: fix = 1": {0},
		"let a: fix = 1; let b: fix = a; let c: fix = b":                                                                 {0, 1, 2},
		"let a: fix = b; let b: fix = c; let c: fix = 1":                                                                 {2, 1, 0},
		"let a: fix = b; let b: fix = c; let c: fix = d; let d: fix = 1; let e: fix = 2":                                 {3, 2, 1, 0, 4},
		"let a: fix = c; let b: fix = 1; let c: fix = 2":                                                                 {1, 2, 0},
		"let a: fix = f; let b: fix = e; let c: fix = d; let d: fix = 1; let e: fix = 2; let f: fix = 3":                 {3, 2, 4, 1, 5, 0},
		"let a: fix = d; let b: fix = 1; let c: fix = a + b; let d: fix = b":                                             {1, 3, 0, 2},
		"let a: fix = b + b * b - c; let b: fix = c + c; let c: fix = -1":                                                {2, 1, 0},
		"let a: fix = b + c; let b: fix = d; let c: fix = d; let d: fix = u":                                             {3, 1, 2, 0},
		"let a: fix = pre b; let b: fix = pre c; let c: fix = pre a":                                                     {0, 1, 2},
		"let a: fix = 1 fby c; let b: fix = a; let c: fix = b":                                                           {0, 1, 2},
		"let a: fix = c fby b; let b: fix = a; let c: fix = 1 fby a":                                                     {2, 0, 1},
		"let a: fix = b -> pre c; let b: fix = 1 -> pre a; let c: fix = b":                                               {1, 0, 2},
		"let a: fix = if v then b else 1; let v: bool = w and c < 1; let w: bool = true; let b: fix = c; let c: fix = u": {2, 4, 1, 3, 0},
		"let a: fix = two(b, g(c, 1)); let b: fix = f(c); let c: fix = f(f(u))":                                          {2, 1, 0},
	} {
		checkOrder(t, "node n(u: fix): fix { "+s+tail, want...)
	}
	// Numbers are those of items, whatever stands between; of a declaration without lets there are none.
	checkOrder(t, "hybrid m(u: fix) { der x = z init 0; let z: fix = y; mode M {A}; let y: fix = w + x; mem k: fix init 0; out z; on z set k = y; let w: fix = k; reset x on u = w; }", 7, 3, 1)
	checkOrder(t, "hybrid m(u: fix) { der x = u init 0; out x; } node n(): fix { let a: fix = 1; return a; }")
	checkOrder(t, "fun f(a: fix): fix = a; hybrid m() { let z: fix = f(1); }")
	// Nothing of a program that has a fault, whoever has it.
	checkOrder(t, "hybrid m() { let z: fix = 1; let y: fix = y; }")
	checkOrder(t, "hybrid m() { let z: fix = 1; } node n(): fix { let y: fix = y; return 1; }")
}

// Without a declaration there is no order.
func TestOrderOfNone(t *testing.T) { // P11.2
	p := read(t, "node n(): fix { let a: fix = b; let b: fix = 1; return a; } hybrid m() { let z: fix = 1; }")
	checkFaults(t, "two", p)
	for d, want := range map[int][]int{0: {1, 0}, 1: {0}, -1: nil, 2: nil, 3: nil, 64: nil, math.MaxInt: nil, math.MinInt: nil} {
		if got := Order(p, d); !slices.Equal(got, want) {
			t.Errorf("Order(%d): %v", d, got)
		}
	}
}

// What is in no text, but in a program that is right by its calls.
func TestStrangePrograms(t *testing.T) { // P11.2
	let := func(name string, e, at int) api.Item {
		return api.Item{Kind: api.ItLet, Name: name, Type: 1, E: e, At: at}
	}
	name := func(s string) api.Expr { return api.Expr{Kind: api.ExName, Name: s, At: 99} }
	// Of lets that have one expression those alone hang on themselves for which it asks.
	m := api.Decl{Kind: api.DeHybrid, Name: "m", Items: []api.Item{let("a", 0, 1), let("b", 0, 2), let("c", 0, 3)}}
	p := api.Program{Exprs: []api.Expr{name("a"), name("c"), {Kind: api.ExAdd, A: 0, B: 1}, {Kind: api.ExFix}}, Decls: []api.Decl{m}}
	checkFaults(t, "of one expression", p, 1)
	for i := range m.Items {
		m.Items[i].E = 2
	}
	checkFaults(t, "of one expression", p, 1, 3)
	m.Items[0].E = 3
	checkFaults(t, "of one expression", p, 3)
	m.Items[2].E = 0
	checkFaults(t, "of one expression", p)
	if got := Order(p, 0); !slices.Equal(got, []int{0, 2, 1}) {
		t.Errorf("of one expression: Order: %v", got)
	}
	// An expression that several declarations have asks for what its names are in each of them.
	params := func(l ...string) []api.Param {
		var params []api.Param
		for _, s := range l {
			params = append(params, api.Param{Name: s, Type: 1})
		}
		return params
	}
	p = api.Program{Exprs: []api.Expr{name("a"), name("b"), {Kind: api.ExPre, A: 0}, {Kind: api.ExAdd, A: 2, B: 1}}, Decls: []api.Decl{
		{Kind: api.DeNode, Name: "g", Type: 1, E: 3, Params: params("a"), Items: []api.Item{let("b", 0, 5), let("c", 3, 6)}},
		{Kind: api.DeNode, Name: "h", Type: 1, E: 3, Params: params("b"), Items: []api.Item{let("a", 3, 7), let("c", 3, 8)}},
		{Kind: api.DeNode, Name: "i", Type: 1, E: 3, Items: []api.Item{let("b", 0, 9), let("a", 3, 4)}},
		{Kind: api.DeHybrid, Name: "m", Items: []api.Item{let("a", 1, 12), let("b", 0, 10), let("c", 0, 11)}},
	}}
	checkFaults(t, "of several", p, 4, 9, 10, 12)
	p.Decls[2].Items[0].E = 2
	checkFaults(t, "of several", p, 10, 12)
	p.Decls[3].Items = []api.Item{let("a", 1, 12), {Kind: api.ItDer, Name: "b", E: 0, F: 4}}
	p.Exprs = append(p.Exprs, api.Expr{Kind: api.ExFix})
	checkFaults(t, "of several", p)
	// What no declaration leads to asks for nothing.
	p.Exprs = append(p.Exprs, name("z"), api.Expr{Kind: api.ExIs, Name: "z", State: "z"}, api.Expr{Kind: api.ExCall, Name: "z", Args: []int{5}})
	checkFaults(t, "nobody's", p)
	checkAsks(t, "nobody's", p, 7, "z")
	checkAsks(t, "nobody's", p, 6)
}

// A fun's items are asked, too, and each kind of a node's: the lets of them.
func TestItems(t *testing.T) { // P11.2
	for kind := api.DeFun; kind <= api.DeHybrid; kind++ {
		items := []api.Item{
			{Kind: api.ItDer, Name: "x", E: 1, F: 0, At: 1}, {Kind: api.ItLet, Name: "a", Type: 1, E: 2, At: 2}, {Kind: api.ItMem, Name: "k", Type: 1, E: 0, At: 3}, {Kind: api.ItReset, Name: "x", E: 1, F: 2, At: 4},
			{Kind: api.ItOn, Name: "k", E: 3, F: 1, At: 5}, {Kind: api.ItMode, Name: "M", States: []string{"a"}, At: 6}, {Kind: api.ItLet, Name: "", Type: 1, E: 4, At: 7}, {Kind: api.ItFrom, Name: "M", State: "a", Next: "a", F: 1, At: 8},
			{Kind: api.ItOut, Name: "a", At: 9}, {Kind: api.ItLet, Name: "b", Type: 1, E: 1, At: 10},
		}
		d := api.Decl{Kind: kind, Name: "d", Items: items}
		if kind != api.DeHybrid {
			d.Type, d.E = 1, 1
		}
		p := api.Program{Exprs: []api.Expr{{Kind: api.ExFix}, {Kind: api.ExName, Name: "a"}, {Kind: api.ExName, Name: "x"}, {Kind: api.ExName, Name: "k"}, {Kind: api.ExName, Name: "b"}}, Decls: []api.Decl{d}}
		if kind != api.DeHybrid {
			p.Decls = append(p.Decls, api.Decl{Kind: api.DeHybrid, Name: "m"})
		}
		checkFaults(t, "items", p)
		if got := Order(p, 0); !slices.Equal(got, []int{1, 9, 6}) {
			t.Errorf("items of kind %d: %v", kind, got)
		}
		items[1].E = 4
		checkFaults(t, "items", p, 2, 10)
	}
}

// Faults rise by where they stand, not by where they are met; those of one place are one.
func TestFaultsInOrder(t *testing.T) { // P11.2
	build := func(at ...int) api.Program {
		m := api.Decl{Kind: api.DeHybrid, Name: "m"}
		p := api.Program{}
		for i, at := range at {
			s := strconv.Itoa(i)
			p.Exprs = append(p.Exprs, api.Expr{Kind: api.ExName, Name: s})
			m.Items = append(m.Items, api.Item{Kind: api.ItLet, Name: s, Type: 1, E: i, At: at})
		}
		p.Decls = []api.Decl{m}
		return p
	}
	checkFaults(t, "of several places", build(5, 4, 5, -7, math.MaxInt, 0), -7, 0, 4, 5, math.MaxInt)
	checkFaults(t, "rising", build(1, 2, 3), 1, 2, 3)
	checkFaults(t, "falling", build(3, 2, 1), 1, 2, 3)
	checkFaults(t, "of one place", build(3, 3, 3), 3)
	checkMarked(t, "node n(): fix { !let b: fix = a; !let a: fix = b; return 1; } hybrid m() { !let z: fix = z; } node o(): fix { !let b: fix = b; return 1; }")
}

// checkNothing asks whether a program is as one that isn't right by its calls.
func checkNothing(t *testing.T, what string, p api.Program) {
	t.Helper()
	if calls.Right(p) {
		t.Errorf("%s: right", what)
	}
	for e := range p.Exprs {
		checkAsks(t, what, p, e)
	}
	for d := range p.Decls {
		if len(Order(p, d)) != 0 {
			t.Errorf("%s: Order(%d): %v", what, d, Order(p, d))
		}
	}
	if len(Faults(p)) != 0 || Right(p) {
		t.Errorf("%s: %v, %v", what, Faults(p), Right(p))
	}
}

// Of programs that aren't right by their calls, kinds, types, or names, or may not be, there is nothing.
func TestNotRight(t *testing.T) { // P11.1, P11.2
	right := read(t, "fun f(a: fix): fix = h(a); hybrid m(u: fix) { let z: fix = -z; mode M {A, B}; } fun h(a: fix): fix = -a;")
	checkFaults(t, "right", right, 46)
	for what, turn := range map[string]func(p *api.Program){
		"a call of itself":         func(p *api.Program) { p.Exprs[1].Name = "f" },
		"a pre that stands smooth": func(p *api.Program) { p.Exprs[3].Kind = api.ExPre },
		"a node that stands so":    func(p *api.Program) { p.Decls[2].Kind = api.DeNode },
		"a let of another type":    func(p *api.Program) { p.Decls[1].Items[0].Type = api.TypeBool },
		"a name that is none":      func(p *api.Program) { p.Exprs[0].Name = "z" },
		"a call of none":           func(p *api.Program) { p.Exprs[1].Name = "z" },
		"a call of a hybrid":       func(p *api.Program) { p.Exprs[1].Name = "m" },
		"a call of too little":     func(p *api.Program) { p.Exprs[1].Args = nil },
		"two of one name":          func(p *api.Program) { p.Decls[2].Name = "f" },
		"no hybrid":                func(p *api.Program) { p.Decls[1].Kind, p.Decls[1].Type = api.DeNode, 1 },
		"an item that there isn't": func(p *api.Program) { p.Decls[1].Items[1].Kind = 9 },
		"a decl of no kind":        func(p *api.Program) { p.Decls = append(p.Decls, api.Decl{}) },
		"a part of its own":        func(p *api.Program) { p.Exprs[1].Args = []int{1} },
		"an E that isn't there":    func(p *api.Program) { p.Decls[0].E = 6 },
		"one expression more":      func(p *api.Program) { p.Exprs = append(p.Exprs, api.Expr{}) },
	} {
		p := api.Program{Decls: slices.Clone(right.Decls), Exprs: slices.Clone(right.Exprs)}
		p.Decls[1].Items = slices.Clone(p.Decls[1].Items)
		turn(&p)
		checkNothing(t, what, p)
	}
	checkNothing(t, "nothing", api.Program{})
	none := api.Program{}
	if len(Asks(none, 0)) != 0 || len(Order(none, 0)) != 0 {
		t.Error("of nothing")
	}
}

// checkDrawn asks for all of a drawn program as the model has it.
func checkDrawn(t *testing.T, p api.Program) {
	t.Helper()
	faults := modelFaults(p)
	checkFaults(t, "drawn", p, faults...)
	for e := range p.Exprs {
		checkAsks(t, "drawn", p, e, modelAsks(p, e)...)
	}
	for d := range p.Decls {
		order := modelOrder(p, d)
		got := Order(p, d)
		if len(faults) == 0 && !slices.Equal(got, order) {
			t.Errorf("Order(%d): %v, wanted %v", d, got, order)
		}
		for i, let := range got {
			if slices.ContainsFunc(modelAsked(p, d, let), func(other int) bool { return slices.Contains(got[i:], other) }) {
				t.Errorf("Order(%d): %v, where %d asks for one behind it", d, got, let)
			}
		}
	}
}

// Programs drawn ask, have faults and orders as the model has it.
func TestAsModel(t *testing.T) { // P11.1, P11.2, P11.3
	d := &drawer{state: 11}
	right, faults := 0, 0
	for i := range 600 {
		p := d.program([]int{1, 3, 5, 8, 14, 19}[i%6])
		checkDrawn(t, p)
		if Right(p) {
			right++
		}
		faults += len(Faults(p))
		if t.Failed() {
			t.Fatalf("%v", p)
		}
	}
	if right < 150 || right > 450 || faults < 600 {
		t.Errorf("%d were right, %d faults", right, faults)
	}
}

// Trees too deep for nested calls, and such as have too many numbers to be walked, are asked, too.
func TestGreatTrees(t *testing.T) { // P11.1, P11.2, rule 1
	const deep = 50_000
	defer debug.SetMaxStack(debug.SetMaxStack(2 << 20))
	for _, next := range []func(i int) api.Expr{
		func(i int) api.Expr { return api.Expr{Kind: api.ExNeg, A: i} },
		func(i int) api.Expr { return api.Expr{Kind: api.ExAdd, A: i, B: i} },
		func(i int) api.Expr { return api.Expr{Kind: api.ExIf, A: 1, B: i, C: i} },
		func(i int) api.Expr { return api.Expr{Kind: api.ExFby, A: i, B: 0} },
		func(i int) api.Expr { return api.Expr{Kind: api.ExCall, Name: "f", Args: []int{i, i}} },
	} {
		l := []api.Expr{{Kind: api.ExName, Name: "u"}, {Kind: api.ExBool, V: 1}, {Kind: api.ExName, Name: "z"}}
		for i := range deep {
			l = append(l, next(i+2))
		}
		last := len(l) - 1
		params := []api.Param{{Name: "u", Type: 1}, {Name: "w", Type: 1}}
		items := []api.Item{{Kind: api.ItLet, Name: "y", Type: 1, E: last, At: 6}, {Kind: api.ItLet, Name: "z", Type: 1, E: 0, At: 5}}
		p := api.Program{Exprs: l, Decls: []api.Decl{
			{Kind: api.DeHybrid, Name: "m"}, {Kind: api.DeNode, Name: "n", Type: 1, Params: params, Items: items}, {Kind: api.DeFun, Name: "f", Type: 1, Params: params},
		}}
		checkFaults(t, "a great tree", p)
		checkAsks(t, "a great tree", p, last, "z")
		if got := Order(p, 1); !slices.Equal(got, []int{1, 0}) {
			t.Errorf("a great tree: %v", got)
		}
		items[1].E = last
		checkFaults(t, "a great tree", p, 5)
		p.Exprs = append(p.Exprs, api.Expr{Kind: api.ExPre, A: last})
		items[0].E = last + 1
		items[1].E = last + 1
		checkFaults(t, "a great tree", p)
		checkAsks(t, "a great tree", p, last+1)
	}
}

// ring is a hybrid of lets each of which asks for the one that is so many steps on, but for the last one of these, if there is one.
func ring(count, step, last int) api.Program {
	m := api.Decl{Kind: api.DeHybrid, Name: "m"}
	p := api.Program{}
	for i := range count {
		x := api.Expr{Kind: api.ExName, Name: "z" + strconv.Itoa((i+step)%count)}
		if i == last {
			x = api.Expr{Kind: api.ExFix}
		}
		p.Exprs = append(p.Exprs, x)
		m.Items = append(m.Items, api.Item{Kind: api.ItLet, Name: "z" + strconv.Itoa(i), Type: 1, E: i, At: i})
	}
	p.Decls = []api.Decl{m}
	return p
}

// numbers are those from 0 on.
func numbers(count int) []int {
	l := make([]int, count)
	for i := range l {
		l[i] = i
	}
	return l
}

// Many lets, in a ring or in a chain, are asked in few steps, and so are those that have one tree.
func TestMany(t *testing.T) { // P11.1, P11.2, rule 1
	const many = 50_000
	defer debug.SetMaxStack(debug.SetMaxStack(2 << 20))
	rising, falling := numbers(many), numbers(many)
	slices.Reverse(falling)
	for _, step := range []int{1, 7, many - 1} {
		checkFaults(t, "a ring", ring(many, step, -1), rising...)
	}
	p := ring(many, 1, many-1)
	checkFaults(t, "a chain", p)
	if got := Order(p, 0); !slices.Equal(got, falling) {
		t.Errorf("a chain: %d", len(got))
	}
	p = ring(many, many-1, 0)
	checkFaults(t, "a chain", p)
	if got := Order(p, 0); !slices.Equal(got, rising) {
		t.Errorf("a chain: %d", len(got))
	}
	// A tree that names all of them: each let that has it hangs on itself, once there are two.
	p = ring(many, 0, -1)
	for i := range many - 1 {
		e := i
		if i > 0 {
			e = many + i - 1
		}
		p.Exprs = append(p.Exprs, api.Expr{Kind: api.ExAdd, A: e, B: i + 1})
	}
	whole := len(p.Exprs) - 1
	p.Exprs = append(p.Exprs, api.Expr{Kind: api.ExFix})
	for i := range p.Decls[0].Items {
		p.Decls[0].Items[i].E = whole
	}
	checkFaults(t, "one tree", p, rising...)
	for i := range many / 2 {
		p.Decls[0].Items[2*i].E = whole + 1
	}
	var odd []int
	for i := range many / 2 {
		odd = append(odd, 2*i+1)
	}
	checkFaults(t, "one tree", p, odd...)
	if got := Asks(p, whole); len(got) != many || got[0] != "z0" || got[many-1] != "z"+strconv.Itoa(many-1) {
		t.Errorf("one tree asks for %d", len(got))
	}
	// A call of many arguments, each an expression of its own, of which the last one leads back.
	f := api.Decl{Kind: api.DeFun, Name: "f", Type: 1}
	wide := api.Expr{Kind: api.ExCall, Name: "f"}
	p = api.Program{Exprs: []api.Expr{{Kind: api.ExFix}}, Decls: []api.Decl{{Kind: api.DeHybrid, Name: "m"}}}
	for i := range many {
		p.Exprs = append(p.Exprs, api.Expr{Kind: api.ExNeg, A: 0})
		f.Params = append(f.Params, api.Param{Name: strconv.Itoa(i), Type: 1})
		wide.Args = append(wide.Args, i+1)
	}
	p.Exprs = append(p.Exprs, wide)
	p.Decls[0].Items = []api.Item{{Kind: api.ItLet, Name: "z", Type: 1, E: many + 1, At: 3}}
	p.Decls = append(p.Decls, f)
	checkFaults(t, "many arguments", p)
	p.Exprs[many] = api.Expr{Kind: api.ExName, Name: "z"}
	checkFaults(t, "many arguments", p, 3)
	checkAsks(t, "many arguments", p, many+1, "z")
	// Lets that have the levels of one tree, which asks for none of them.
	p = api.Program{Exprs: []api.Expr{{Kind: api.ExFix}}, Decls: []api.Decl{{Kind: api.DeHybrid, Name: "m"}}}
	for i := range many {
		p.Exprs = append(p.Exprs, api.Expr{Kind: api.ExNeg, A: i})
		p.Decls[0].Items = append(p.Decls[0].Items, api.Item{Kind: api.ItLet, Name: strconv.Itoa(i), Type: 1, E: many - i})
	}
	p.Exprs = append(p.Exprs, api.Expr{Kind: api.ExFix})
	checkFaults(t, "levels", p)
	if got := Order(p, 0); !slices.Equal(got, rising) {
		t.Errorf("levels: %d", len(got))
	}
}

// As many lets as a text may have, of several declarations.
func TestManyOfText(t *testing.T) { // P11.2
	s, want := "", []int(nil)
	for d := range 8 {
		s += "node n" + strconv.Itoa(d) + "(): fix { "
		for i := range 90 {
			want = append(want, len(s))
			s += "let z" + strconv.Itoa(i) + ": fix = z" + strconv.Itoa((i+d+1)%90) + "; "
		}
		s += "return 1; } "
	}
	checkFaults(t, "of text", read(t, s+"hybrid m() { }"), want...)
}

// Nothing that is handed in is changed, or shared with an answer.
func TestMemory(t *testing.T) { // rule 5
	build := func() api.Program {
		items := []api.Item{{Kind: api.ItLet, Name: "z", Type: 1, E: 2, At: 3}, {Kind: api.ItLet, Name: "y", Type: 1, E: 1}, {Kind: api.ItLet, Name: "spare", E: 7}}[:2]
		params := []api.Param{{Name: "u", Type: 1}, {Name: "spare", Type: 2}}[:1]
		exprs := []api.Expr{{Kind: api.ExName, Name: "y"}, {Kind: api.ExName, Name: "u"}, {Kind: api.ExCall, Name: "g", Args: []int{0, 77}[:1]}, {Kind: api.ExBool, V: 9}}[:3]
		return api.Program{Exprs: exprs, Decls: []api.Decl{{Kind: api.DeHybrid, Name: "m", Params: params, Items: items}, {Kind: api.DeFun, Name: "g", Type: 1, Params: params, E: 1}, {Name: "spare"}}[:2]}
	}
	p := build()
	order := Order(p, 0)
	if !slices.Equal(order, []int{1, 0}) {
		t.Fatal(order)
	}
	order[0] = 50
	if other := Order(p, 0); !slices.Equal(other, []int{1, 0}) || unsafe.SliceData(other) == unsafe.SliceData(order) {
		t.Errorf("%v", other)
	}
	asks := Asks(p, 2)
	if len(asks) != 1 || unsafe.StringData(asks[0]) == unsafe.StringData(p.Exprs[0].Name) {
		t.Errorf("%v", asks)
	}
	asks[0] = "w"
	checkAsks(t, "asked again", p, 2, "y")
	if !Right(p) || len(Faults(p)) != 0 {
		t.Errorf("%v, %v", Right(p), Faults(p))
	}
	if q := build(); !reflect.DeepEqual(p, q) || !reflect.DeepEqual(spare(p), spare(q)) {
		t.Error("what was handed in is changed")
	}
	p.Exprs[0].Name = "z"
	faults := Faults(p)
	if !slices.Equal(faults, faultsAt([]int{3})) {
		t.Errorf("%v", faults)
	}
	faults[0].At = 50
	if !slices.Equal(Faults(p), faultsAt([]int{3})) {
		t.Error("an answer is shared with another one")
	}
}

// spare is what lies behind the ends of a program's lists.
func spare(p api.Program) []any {
	d := p.Decls[0]
	return []any{p.Decls[:3][2], d.Params[:2][1], d.Items[:3][2], p.Exprs[:4][3], p.Exprs[2].Args[:2][1]}
}
