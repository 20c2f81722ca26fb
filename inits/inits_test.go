package inits

import (
	"math"
	"reflect"
	"runtime/debug"
	"slices"
	"strconv"
	"strings"
	"testing"

	"astrolabe/api"
	"astrolabe/calls"
	"astrolabe/caus"
	"astrolabe/kinds"
	"astrolabe/names"
	"astrolabe/parse"
	"astrolabe/types"
)

// read is the program of a text, right by its causes.
func read(t *testing.T, s string) api.Program {
	t.Helper()
	p, fault := parse.Parse(s)
	if fault.Code != api.OK {
		t.Fatalf("%q: %v", s, fault)
	}
	checkCauses(t, s, p)
	return p
}

func checkCauses(t *testing.T, what string, p api.Program) {
	t.Helper()
	if !caus.Right(p) {
		t.Fatalf("%s: faults of names %v, of types %v, of kinds %v, of calls %v, of causes %v", what, names.Faults(p), types.Faults(p), kinds.Faults(p), calls.Faults(p), caus.Faults(p))
	}
}

// faultsAt are faults of inits at these places.
func faultsAt(l []int) []api.Fault {
	var faults []api.Fault
	for _, at := range l {
		faults = append(faults, api.Fault{Code: api.ErrInit, At: at})
	}
	return faults
}

// checkFaults asks for a program's faults, and whether it is right.
func checkFaults(t *testing.T, what string, p api.Program, want ...int) {
	t.Helper()
	checkCauses(t, what, p)
	if got := Faults(p); !slices.Equal(got, faultsAt(want)) {
		t.Errorf("%s: faults %v, wanted at %v", what, got, want)
	}
	if Right(p) != (len(want) == 0) {
		t.Errorf("%s: Right: %v", what, Right(p))
	}
}

// checkMarked asks for the faults of a text: each stands behind a mark !, which is taken out.
func checkMarked(t *testing.T, marked string) {
	t.Helper()
	var want []int
	pieces := strings.Split(marked, "!")
	s := pieces[0]
	for _, piece := range pieces[1:] {
		want = append(want, len(s))
		s += piece
	}
	checkFaults(t, s, read(t, s), want...)
}

func checkLate(t *testing.T, what string, p api.Program, d int, want ...int) {
	t.Helper()
	if got := Late(p, d); !slices.Equal(got, want) {
		t.Errorf("%s: Late(%d): %v, wanted %v", what, d, got, want)
	}
}

func checkIs(t *testing.T, what string, p api.Program, d, e int, want bool) {
	t.Helper()
	if Is(p, d, e) != want {
		t.Errorf("%s: Is(%d, %d): %v", what, d, e, !want)
	}
}

// What there is beside a node, or a hybrid.
const rest = " fun f(a: fix): fix = a; fun two(a: fix, b: fix): fix = a; node g(a: fix, b: fix): fix { return a; } fun o(a: bool): bool = a;"

// An expression of each kind, with late parts (l, and v of bools) and others (a, w) in each of their places.
func TestIs(t *testing.T) { // P12.1
	for s, want := range map[string]string{
		"1": "", "a": "", "l": "late", "z2": "late", "y2": "", "pre a": "late", "pre l": "late", "pre 1": "late", "pre pre a": "late", "pre (1 -> a)": "late", "pre (1 fby a)": "late", "pre f(a)": "late",
		"-a": "", "-l": "late", "sqrt a": "", "sqrt l": "late", "(l)": "late", "-pre a": "late", "- sqrt -l": "late",
		"a + 1": "", "l + a": "late", "a + l": "late", "l - a": "late", "a - l": "late", "l * a": "late", "a * l": "late", "l / a": "late", "a / l": "late", "1 + 2 * (3 - pre a)": "late",
		"if w then a else 1": "", "if v then a else 1": "late", "if w then l else 1": "late", "if w then a else l": "late",
		"if a < l then 1 else 2": "late", "if l < a then 1 else 2": "late", "if a <= l then 1 else 2": "late", "if l <= a then 1 else 2": "late", "if a == l then 1 else 2": "late", "if l == a then 1 else 2": "late",
		"if v == w then 1 else 2": "late", "if a < 1 then 1 else 2": "", "if a <= 1 then 1 else 2": "", "if a == 1 then 1 else 2": "", "if not w then 1 else 2": "", "if not v then 1 else 2": "late",
		"if v and w then 1 else 2": "late", "if w and v then 1 else 2": "late", "if v or w then 1 else 2": "late", "if w or v then 1 else 2": "late", "if w and w or w then 1 else 2": "",
		"if false then l else 1": "late", "if true or v then 1 else 2": "late", "if true then 1 else 2": "", "0 * l": "late",
		"a -> l": "", "l -> a": "late", "l -> l": "late", "a -> b -> l": "", "l -> b -> a": "late", "(a -> l) -> a": "", "(l -> a) -> a": "late", "a -> (l -> a)": "", "1 -> pre l": "", "(0 -> l) + (0 -> l)": "", "(0 -> l) + l": "late", "pre a -> 0": "late",
		"a fby l": "", "l fby a": "", "l fby l": "", "pre a fby pre a": "", "(l fby a) fby l": "", "(a fby b) -> l": "", "(l fby a) + a": "", "(l fby a) + l": "late",
		"f(a)": "", "f(l)": "", "f(pre a)": "", "two(a, l)": "", "g(l, l)": "", "f(l) + l": "late", "f(l) + a": "", "f(l) -> l": "", "g(f(l), l) + f(pre l)": "", "if o(v) then f(l) else 1": "", "if o(v) and v then 1 else 2": "late",
	} {
		p := read(t, "node n(a: fix, b: fix, w: bool): fix { let y: fix = "+s+"; let l: fix = pre b; let v: bool = pre w; let z2: fix = l + 1; let y2: fix = 0 -> l; return 1; }"+rest+" hybrid m() { }")
		e := p.Decls[0].Items[0].E
		checkIs(t, s, p, 0, e, want == "late")
		l := []int{1, 2, 3}
		if want == "late" {
			l = []int{0, 1, 2, 3}
		}
		checkLate(t, s, p, 0, l...)
	}
}

// The lets that are late, wherever they stand, whoever asks for them, also where that is delayed.
func TestLate(t *testing.T) { // P12.1
	for s, want := range map[string][]int{
		"":                 nil,
		"let b: fix = a; ": nil,
		"let b: fix = pre a; let c: fix = b + 1; let d: fix = 0 -> c; let e: fix = a fby d; let z: fix = if c < 0 then d else e; ": {0, 1, 4},
		"let b: fix = c; let c: fix = d; let d: fix = pre a; let e: fix = 1; ":                                                     {0, 1, 2},
		"let b: fix = pre a; let c: fix = b; let d: fix = c; let e: fix = 1; ":                                                     {0, 1, 2},
		"let b: fix = d; let c: fix = pre a; let d: fix = c; let e: fix = 0 -> b; let h: fix = e; let i: fix = b -> e; ":           {0, 1, 2, 5},
		"let b: fix = 0 -> pre c; let c: fix = b; ":                                                                                nil,
		"let b: fix = pre c; let c: fix = 0 -> b; ":                                                                                {0},
		"let b: fix = pre b; ":                                                                       {0},
		"let b: fix = pre c; let c: fix = pre b; ":                                                   {0, 1},
		"let b: fix = 0 fby b; ":                                                                     nil,
		"let b: fix = 0 fby c; let c: fix = b; ":                                                     nil,
		"let b: fix = 0 fby c; let c: fix = pre b; ":                                                 {1},
		"let b: fix = c fby b; let c: fix = pre b; let d: fix = b; ":                                 {1},
		"let b: fix = g(c, d); let c: fix = pre b; let d: fix = f(c); let e: fix = b + d; ":          {1},
		"let b: bool = c; let c: bool = not pre b; let d: bool = true -> c; let e: bool = d and c; ": {0, 1, 3},
		"let g: fix = f(f); let f: fix = pre a; let two: fix = g; let o: fix = f; ":                  {1, 3},
	} {
		p := read(t, "node n(a: fix): fix { "+s+"return 1; }"+rest+" hybrid m() { let b: fix = 1; }")
		checkLate(t, s, p, 0, want...)
		for d := 1; d < len(p.Decls); d++ {
			checkLate(t, s, p, d)
		}
		for i, it := range p.Decls[0].Items {
			checkIs(t, s, p, 0, it.E, slices.Contains(want, i))
		}
	}
}

// Without a declaration, or an expression, nothing is late.
func TestNone(t *testing.T) { // P12.1
	p := read(t, "node n(): fix { let a: fix = pre 1; return 1; } hybrid m() { }")
	out := []int{-1, 2, 3, 64, math.MaxInt, math.MinInt}
	for _, d := range out {
		checkLate(t, "none", p, d)
		for e := range p.Exprs {
			checkIs(t, "none", p, d, e, false)
		}
	}
	out[1] = len(p.Exprs)
	for _, e := range out {
		for d := range p.Decls {
			checkIs(t, "none", p, d, e, false)
		}
	}
	checkLate(t, "one", p, 0, 0)
	checkIs(t, "one", p, 0, 1, true)
	checkIs(t, "one", p, 1, 1, true)
	checkIs(t, "one", p, 0, 0, false)
	// Also where one lies behind the list's end.
	all := p.Exprs
	p.Exprs = p.Exprs[:2]
	p.Decls[0].E = 0
	checkIs(t, "behind", p, 0, 2, false)
	checkIs(t, "behind", api.Program{Decls: p.Decls[:1], Exprs: all}, 1, 1, false)
}

// A name is what it is where it is asked: a let here, a parameter, a der, a mem or nothing there.
func TestIsElsewhere(t *testing.T) { // P12.1
	p := read(t, "node n(b: fix): fix { let a: fix = pre b; let c: fix = a + 1; let d: fix = a -> b; return 1; } node h(a: fix): fix { let b: fix = pre a; return 1; } "+
		"fun f(b: fix): fix = b; node k(): fix { let a: fix = 1; let b: fix = a; return b; } hybrid m() { der a = 1 init 0; mem b: fix init 0; }")
	c, d, b := p.Decls[0].Items[1].E, p.Decls[0].Items[2].E, p.Decls[3].Items[1].E
	for i, want := range []string{"a c d", "b", "", "", ""} {
		checkIs(t, "a + 1", p, i, c, strings.Contains(want, "a"))
		checkIs(t, "a -> b", p, i, d, strings.Contains(want, "d"))
		checkIs(t, "a", p, i, b, strings.Contains(want, "a"))
		checkIs(t, "pre b", p, i, p.Decls[0].Items[0].E, true)
		checkIs(t, "b", p, i, p.Decls[2].E, strings.Contains(want, "b"))
	}
}

// What no declaration leads to is asked as if it stood there; what it names isn't late, if nothing has that name, or a mode; nor is it a fault.
func TestNobodys(t *testing.T) { // P12.1, P12.2
	name := func(s string) api.Expr { return api.Expr{Kind: api.ExName, Name: s} }
	of := func(kind, a, b int) api.Expr { return api.Expr{Kind: kind, A: a, B: b} }
	p := api.Program{
		Exprs: []api.Expr{
			{Kind: api.ExFix}, of(api.ExPre, 0, 0), // 2: those of nobody
			name("nobody"), name("M"), name("l"), {Kind: api.ExIs, Name: "l", State: "l"}, {Kind: api.ExCall, Name: "l", Args: []int{1, 1}}, of(api.ExPre, 1, 0), of(api.ExAdd, 4, 5), of(api.ExFby, 7, 7), of(api.ExArrow, 9, 1), of(api.ExNot, 7, 0), of(api.ExAnd, 10, 4),
		},
		Decls: []api.Decl{
			{Kind: api.DeHybrid, Name: "m"},
			{Kind: api.DeNode, Name: "n", Type: 1, Items: []api.Item{{Kind: api.ItMode, Name: "M", States: []string{"A"}}, {Kind: api.ItLet, Name: "l", Type: 1, E: 1}}},
		},
	}
	checkFaults(t, "nobody's", p)
	checkLate(t, "nobody's", p, 1, 1)
	for e := range p.Exprs {
		checkIs(t, "in m", p, 0, e, slices.Contains([]int{1, 7, 11}, e))
		checkIs(t, "in n", p, 1, e, slices.Contains([]int{1, 4, 7, 8, 11, 12}, e))
	}
}

// Faults stand at what mustn't be late, and is, and at nothing else.
func TestFaults(t *testing.T) { // P12.2
	for _, s := range []string{
		"return 1;", "return a;", "return !pre 1;", "return 0 -> pre 1;", "return !pre a;", "return 1 + a;", "return 0 fby a;", "return g(a, a);",
		"return a !+ pre a;", "return !-pre a;", "return !sqrt pre a;", "return !if a < pre a then 1 else 2;", "return pre a !-> 0;", "return (pre a !-> 0);", "return 0 -> pre a -> pre a;", "return (0 -> pre a) -> pre a;",
		// The part of a pre.
		"return 0 -> pre !pre a;", "return !pre !pre a;", "return 0 -> pre !pre !pre !pre a;", "return 0 -> pre (a !+ pre a);", "return 0 -> pre (0 -> pre a);", "return 0 -> pre (pre a !-> 0);", "return 0 -> pre (pre a * 1 + 0 !-> 1);",
		"return 0 -> (pre a + pre (0 -> pre a));", "return 0 -> pre (0 fby a);", "return 0 -> pre f(a);", "return 0 -> pre (0 fby !pre a);", "return 0 -> pre f(!pre a);",
		// Both parts of an fby.
		"return !pre a fby a;", "return a fby !pre a;", "return !pre a fby !pre a;", "return 0 fby (0 -> pre a);", "return 0 fby (0 fby !pre a);", "return (0 fby a) fby (!pre a fby a);", "return (a !+ pre a) fby (a !- pre a);", "return (pre a !-> 1) fby (1 -> pre a);",
		// Arguments, of funs and nodes.
		"return f(!pre a);", "return two(a, !pre a);", "return two(!pre a, !pre a);", "return g(!pre a, a);", "return g(a, !pre a);", "return g(f(!pre a), two(0 -> pre a, a !+ pre a));", "return f(!pre a) !+ (pre a -> 0);", "return f(0 -> pre a);",
		"return f(f(!pre a));", "return if o(!pre (a < 1)) then 1 else 2;", "return if o(true -> pre (a < 1)) then 1 else 2;", "return 0 -> f(!pre a);", "return k();", "return k() fby k();",
		// Lets, asked for or not.
		"let b: fix = pre a; return 1;", "let b: fix = pre a; return !b;", "let b: fix = pre a; return 0 -> b;", "let b: fix = pre a; return 0 -> pre !b;", "let b: fix = 0 -> pre a; return pre (b + 1) !-> 0;", "let b: fix = 0 -> pre a; return pre b !-> 0;",
		"let b: fix = pre c; let c: fix = 0 fby !b; return c;", "let b: fix = pre c; let c: fix = 0 -> b; return c;", "let b: fix = pre !pre a; return 1;", "let b: fix = f(!pre a); return b;", "let b: fix = !pre a fby !pre a; return b;",
		"let b: fix = pre !b; return 1;", "let b: fix = 0 -> pre b; return b;", "let b: fix = pre !c; let c: fix = pre !b; return a;", "let b: fix = 0 fby b; return b;", "let b: fix = !c fby a; let c: fix = d; let d: fix = -pre a; return b;",
		"let b: fix = c; let c: fix = d; let d: fix = pre a; return f(!b) !+ c;", "let d: fix = pre a; let c: fix = d; let b: fix = c; return !b;", "let b: fix = c; let c: fix = 0 -> d; let d: fix = pre a; return b;",
		"let b: fix = 0 fby !c; let c: fix = pre b; return g(b, !c);", "let f: fix = pre a; let g: fix = f(!f) + g(f(!f), f(a)); return g;", "let b: bool = pre true; let c: bool = o(!b) and a < 1; return a;",
	} {
		checkMarked(t, "node n(a: fix): fix { "+s+" }"+rest+" node k(): fix { return 1; } hybrid m() { }")
	}
}

// In a hybrid what resets and ons set mustn't be late; in whose trees one stands makes no difference to another one.
func TestFaultsOfDeclarations(t *testing.T) { // P12.2
	for _, s := range []string{
		"hybrid m() { }",
		"hybrid m(u: fix) { der x = u init 0; reset x on u = !pre u; mem k: fix init 0; on x set k = pre k !-> 0; }",
		"hybrid m(u: fix) { der x = u init 0; reset x on u = 0 -> pre u; mem k: fix init 0; on x set k = 0 -> pre k; on u set k = 0 fby k; reset x on x = x; }",
		"hybrid m(u: fix) { der x = u init 0; reset x on u = 0 -> pre !pre u; mem k: fix init 0; on x set k = !pre k fby g(!pre k, f(!pre u)); } fun f(a: fix): fix = a; node g(a: fix, b: fix): fix { return a; }",
		"hybrid m(u: fix) { der x = z init 0; let z: fix = u; mode M {A, B}; from M.A on z goto B; out z; out x; mem b: bool init true; on z set b = !not pre b; on u set b = true -> not pre b; }",
		"hybrid m(u: fix) { mem k: fix init 0; on u set k = k !+ pre z; let z: fix = u; }",
		"hybrid m(u: fix) { mem k: fix init 0; on u set k = !if pre (u < 1) then pre k else k; }",
		"fun f(a: fix): fix = a; hybrid m(u: fix) { der x = f(u) init f(1); let z: fix = f(f(u)); }",
		"node g(a: fix): fix { return !pre a; } node h(a: fix): fix { return g(a); } hybrid m(u: fix) { mem k: fix init 0; on u set k = g(k); on k set k = h(!pre k); }",
		"node g(a: fix): fix { let b: fix = pre a; return 0 -> b; } node h(b: fix): fix { return g(b); } hybrid m(a: fix, b: fix) { let c: fix = a + b; mem k: fix init 1; on c set k = b; }",
		"node g(a: fix): fix { let b: fix = pre a; return !b; } node h(a: fix): fix { let b: fix = a; return b; } node i(): fix { let b: fix = 0 -> b2; let b2: fix = pre b; return f(!b2); } fun f(b: fix): fix = b; hybrid m(b: fix) { mem k: fix init 1; on b set k = b; }",
	} {
		checkMarked(t, s)
	}
}

// Each item of each kind of declarations is asked, also where no text has it: the E of resets and ons, and no other one.
func TestItems(t *testing.T) { // P12.1, P12.2
	exprs := []api.Expr{
		{Kind: api.ExFix, At: 10}, {Kind: api.ExName, Name: "a", At: 11}, {Kind: api.ExPre, A: 0, At: 12}, {Kind: api.ExPre, A: 1, At: 13}, {Kind: api.ExArrow, A: 0, B: 2, At: 14},
	}
	items := []api.Item{
		{Kind: api.ItDer, Name: "x", E: 1}, {Kind: api.ItLet, Name: "a", Type: 1}, {Kind: api.ItMem, Name: "k", Type: 1}, {Kind: api.ItReset, Name: "x", E: 3, F: 1},
		{Kind: api.ItOn, Name: "k", E: 2, F: 1}, {Kind: api.ItMode, Name: "M", States: []string{"A"}}, {Kind: api.ItLet, Name: "b", Type: 1, E: 1}, {Kind: api.ItFrom, Name: "M", State: "A", Next: "A", F: 1},
		{Kind: api.ItOut, Name: "a"}, {Kind: api.ItReset, Name: "x", E: 4}, {Kind: api.ItOn, Name: "k"},
	}
	for kind := api.DeFun; kind <= api.DeHybrid; kind++ {
		d := api.Decl{Kind: kind, Name: "d", Items: slices.Clone(items)}
		if kind != api.DeHybrid {
			d.Type, d.E = 1, 1
		}
		p := api.Program{Exprs: exprs, Decls: []api.Decl{d}}
		if kind != api.DeHybrid {
			p.Decls = append(p.Decls, api.Decl{Kind: api.DeHybrid, Name: "m"})
		}
		checkFaults(t, "items", p, 12, 13)
		checkLate(t, "items", p, 0)
		d.Items[4].E = 4
		checkFaults(t, "items", p, 13)
		d.Items[3].E = 1
		checkFaults(t, "items", p)
		if kind != api.DeNode {
			continue
		}
		// A node's lets may be late.
		d.Items[1].E = 4
		checkFaults(t, "items", p)
		checkLate(t, "items", p, 0)
		d.E, p.Decls[0].E = 3, 3
		checkFaults(t, "items", p, 13)
		d.Items[6].E = 3
		checkLate(t, "items", p, 0, 6)
		p.Decls[0].E = 0
		checkFaults(t, "items", p)
	}
}

// What has no E isn't late, and no fault, where the expression 0 is late; the name of a der or a mem isn't, where what is set is.
func TestNoExpression(t *testing.T) { // P12.1, P12.2
	p := api.Program{
		Exprs: []api.Expr{{Kind: api.ExName, Name: "a", At: 10}, {Kind: api.ExFix, At: 11}, {Kind: api.ExPre, A: 1, At: 12}, {Kind: api.ExName, Name: "x", At: 13}, {Kind: api.ExName, Name: "k", At: 14}, {Kind: api.ExAdd, A: 3, B: 4, At: 15}},
		Decls: []api.Decl{{Kind: api.DeHybrid, Name: "m"}, {Kind: api.DeNode, Name: "n", Type: 1, E: 1, Items: []api.Item{
			{Kind: api.ItOut, Name: "a"}, {Kind: api.ItMode, Name: "M", States: []string{"A"}}, {Kind: api.ItFrom, Name: "M", State: "A", Next: "A", F: 1}, {Kind: api.ItLet, Name: "a", Type: 1, E: 2},
			{Kind: api.ItDer, Name: "x", E: 1, F: 1}, {Kind: api.ItMem, Name: "k", Type: 1, E: 1}, {Kind: api.ItLet, Name: "b", Type: 1}, {Kind: api.ItOut, Name: "b"},
		}}, {Kind: api.DeFun, Name: "f", Type: 1, E: 1}},
	}
	checkFaults(t, "without an E", p)
	checkLate(t, "without an E", p, 1, 3, 6)
	checkIs(t, "without an E", p, 1, 0, true)
	items := p.Decls[1].Items
	items[0], items[7] = api.Item{Kind: api.ItReset, Name: "x", E: 2, F: 1}, api.Item{Kind: api.ItOn, Name: "k", E: 2, F: 1}
	p.Decls[1].E = 5
	checkFaults(t, "of what is set", p, 12)
	for e, want := range []bool{true, false, true, false, false, false} {
		checkIs(t, "of what is set", p, 1, e, want)
	}
}

// An expression that several declarations have is late by what its names are in each of them; it is a fault if it mustn't be late in one where it is.
func TestOfSeveral(t *testing.T) { // P12.1, P12.2
	let := func(name string, e int) api.Item { return api.Item{Kind: api.ItLet, Name: name, Type: 1, E: e} }
	p := api.Program{
		Exprs: []api.Expr{
			{Kind: api.ExName, Name: "a", At: 20}, {Kind: api.ExPre, A: 0, At: 21}, {Kind: api.ExFix, At: 22}, {Kind: api.ExArrow, A: 2, B: 1, At: 23}, {Kind: api.ExPre, A: 2, At: 24}, {Kind: api.ExNeg, A: 0, At: 25},
		},
		Decls: []api.Decl{
			{Kind: api.DeNode, Name: "g", Type: 1, E: 3, Items: []api.Item{let("a", 4)}},
			{Kind: api.DeNode, Name: "h", Type: 1, E: 3, Items: []api.Item{let("a", 2)}},
			{Kind: api.DeNode, Name: "i", Type: 1, E: 3, Params: []api.Param{{Name: "a", Type: 1}}, Items: []api.Item{let("b", 5)}},
			{Kind: api.DeHybrid, Name: "m", Items: []api.Item{{Kind: api.ItMem, Name: "a", Type: 1, E: 2}, {Kind: api.ItOn, Name: "a", E: 3, F: 0}}},
		},
	}
	checkFaults(t, "of several", p, 20)
	for d, want := range []bool{true, false, false, false} {
		checkIs(t, "of several", p, d, 0, want)
		checkIs(t, "of several", p, d, 5, want)
		checkIs(t, "of several", p, d, 3, false)
	}
	checkLate(t, "of several", p, 0, 0)
	p.Decls[0].E = 2 // 0 isn't in its trees any more
	checkFaults(t, "of several", p)
	p.Decls[1].E = 5
	checkFaults(t, "of several", p)
	p.Decls[1].Items[0].E = 4
	checkFaults(t, "of several", p, 25)
	p.Decls[3].Items[1].E = 1
	checkFaults(t, "of several", p, 21, 25)
	p.Decls[0].E = 5
	checkFaults(t, "of several", p, 21, 25)
	p.Decls[2].Items[0].E = 1
	p.Decls[2].E = 5
	checkFaults(t, "of several", p, 21, 25)
	checkLate(t, "of several", p, 2, 0)
	// What awaits what in one declaration doesn't in another one, though it has the same expressions.
	p.Decls = []api.Decl{
		{Kind: api.DeNode, Name: "g", Type: 1, E: 2, Items: []api.Item{let("a", 4), let("b", 5)}},
		{Kind: api.DeNode, Name: "h", Type: 1, E: 5, Params: []api.Param{{Name: "a", Type: 1}}, Items: []api.Item{let("b", 4)}},
		{Kind: api.DeNode, Name: "i", Type: 1, E: 5, Items: []api.Item{let("a", 2), let("b", 4)}},
		{Kind: api.DeHybrid, Name: "m"},
	}
	checkFaults(t, "one behind the other", p)
	p.Decls[0], p.Decls[2] = p.Decls[2], p.Decls[0]
	p.Decls[0].Name, p.Decls[2].Name = "g", "i"
	checkFaults(t, "one behind the other", p)
	p.Decls[2].E = 0
	checkFaults(t, "one behind the other", p, 20)
	// Two lets of one expression, which is late of both.
	p = api.Program{Exprs: []api.Expr{{Kind: api.ExFix}, {Kind: api.ExPre, A: 0}, {Kind: api.ExName, Name: "b"}}, Decls: []api.Decl{
		{Kind: api.DeNode, Name: "n", Type: 1, Items: []api.Item{let("a", 2), let("b", 1), let("c", 1), let("d", 2), let("e", 0)}}, {Kind: api.DeHybrid, Name: "m"},
	}}
	checkLate(t, "of one expression", p, 0, 0, 1, 2, 3)
	checkFaults(t, "of one expression", p)
}

// Faults rise by where they stand, not by where they are met; those of one place are one.
func TestFaultsInOrder(t *testing.T) { // P12.2
	build := func(at ...int) api.Program {
		m := api.Decl{Kind: api.DeHybrid, Name: "m", Items: []api.Item{{Kind: api.ItMem, Name: "k", Type: 1}}}
		p := api.Program{Exprs: []api.Expr{{Kind: api.ExFix, At: 1}}}
		for i, at := range at {
			p.Exprs = append(p.Exprs, api.Expr{Kind: api.ExPre, At: at})
			m.Items = append(m.Items, api.Item{Kind: api.ItOn, Name: "k", E: i + 1})
		}
		p.Decls = []api.Decl{m}
		return p
	}
	checkFaults(t, "of several places", build(5, 4, 5, -7, math.MaxInt, 0), -7, 0, 4, 5, math.MaxInt)
	checkFaults(t, "rising", build(1, 2, 3), 1, 2, 3)
	checkFaults(t, "falling", build(3, 2, 1), 1, 2, 3)
	checkFaults(t, "of one place", build(3, 3, 3), 3)
	checkMarked(t, "node n(): fix { let b: fix = pre !pre 1; return !pre !b; } hybrid m() { mem k: fix init 0; on k set k = !pre k; } node o(): fix { return f(!pre 1) !+ pre 1; } fun f(a: fix): fix = a;")
	// One that mustn't be late for several reasons is told once.
	p := read(t, "node n(): fix { return f(pre 1); } fun f(a: fix): fix = a; hybrid m() { }")
	p.Exprs[2].Args = []int{1}
	checkFaults(t, "of one argument", p, 25)
	p.Decls[0].E = 1
	p.Decls[0].Items = []api.Item{{Kind: api.ItLet, Name: "a", Type: 1, E: 2}}
	checkFaults(t, "of two reasons", p, 25)
}

// checkNothing asks whether a program is as one that isn't right by its causes.
func checkNothing(t *testing.T, what string, p api.Program) {
	t.Helper()
	if caus.Right(p) {
		t.Errorf("%s: right", what)
	}
	for d := range p.Decls {
		checkLate(t, what, p, d)
		for e := range p.Exprs {
			checkIs(t, what, p, d, e, false)
		}
	}
	if len(Faults(p)) != 0 || Right(p) {
		t.Errorf("%s: %v, %v", what, Faults(p), Right(p))
	}
}

// Of programs that aren't right by their causes, calls, kinds, types, or names, or may not be, there is nothing.
func TestNotRight(t *testing.T) { // P12.1, P12.2
	const text = "fun f(a: fix): fix = h(a); node n(u: fix): fix { let z: fix = pre u; return z; } fun h(a: fix): fix = -a; hybrid m() { let y: fix = f(1); }"
	right := read(t, text)
	checkFaults(t, "right", right, strings.Index(text, "z; }"))
	checkLate(t, "right", right, 1, 0)
	for what, turn := range map[string]func(p *api.Program){
		"a let of itself":          func(p *api.Program) { p.Exprs[3].Kind = api.ExNeg; p.Exprs[2].Name = "z" },
		"a call of itself":         func(p *api.Program) { p.Exprs[1].Name = "f" },
		"a pre that stands smooth": func(p *api.Program) { p.Exprs[6].Kind = api.ExPre },
		"a node that stands so":    func(p *api.Program) { p.Decls[2].Kind = api.DeNode },
		"a let of another type":    func(p *api.Program) { p.Decls[1].Items[0].Type = api.TypeBool },
		"a name that is none":      func(p *api.Program) { p.Exprs[0].Name = "z" },
		"a call of none":           func(p *api.Program) { p.Exprs[1].Name = "z" },
		"a call of a hybrid":       func(p *api.Program) { p.Exprs[1].Name = "m" },
		"a call of too little":     func(p *api.Program) { p.Exprs[1].Args = nil },
		"two of one name":          func(p *api.Program) { p.Decls[2].Name = "f" },
		"no hybrid":                func(p *api.Program) { p.Decls = p.Decls[:3] },
		"an item that there isn't": func(p *api.Program) { p.Decls[1].Items[0].Kind = 9 },
		"a decl of no kind":        func(p *api.Program) { p.Decls = append(p.Decls, api.Decl{}) },
		"a part of its own":        func(p *api.Program) { p.Exprs[1].Args = []int{1} },
		"an E that isn't there":    func(p *api.Program) { p.Decls[0].E = len(p.Exprs) },
		"one expression more":      func(p *api.Program) { p.Exprs = append(p.Exprs, api.Expr{}) },
	} {
		p := api.Program{Decls: slices.Clone(right.Decls), Exprs: slices.Clone(right.Exprs)}
		p.Decls[1].Items = slices.Clone(p.Decls[1].Items)
		turn(&p)
		checkNothing(t, what, p)
	}
	checkNothing(t, "nothing", api.Program{})
	none := api.Program{}
	checkLate(t, "of nothing", none, 0)
	checkIs(t, "of nothing", none, 0, 0, false)
}

// checkDrawn asks for all of a drawn program as the model has it, but for its expressions in one declaration each, since each question costs a look at the whole.
func checkDrawn(t *testing.T, p api.Program) {
	t.Helper()
	checkFaults(t, "drawn", p, modelFaults(p)...)
	for d := range p.Decls {
		checkLate(t, "drawn", p, d, modelLate(p, d)...)
	}
	for e := range p.Exprs {
		d := e % len(p.Decls)
		checkIs(t, "drawn", p, d, e, modelIs(p, d, e))
	}
}

// checkThere asks whether all that is in a right program's trees is there: at first what isn't late, and then all of it.
func checkThere(t *testing.T, p api.Program) {
	t.Helper()
	known := map[asked]bool{}
	for d, x := range p.Decls {
		for _, e := range modelTrees(p, d) {
			for step := range 4 {
				if there(p, known, asked{d, e, step}) != (step > 0 || !modelIs(p, d, e)) {
					t.Errorf("%d of %d at %d", e, d, step)
				}
			}
		}
		if x.Kind == api.DeNode && !there(p, known, asked{d, x.E, 0}) {
			t.Errorf("%d isn't there", d)
		}
	}
}

// Programs drawn have faults and late lets as the model has it.
func TestAsModel(t *testing.T) { // P12.1, P12.2, P12.3
	d := &drawer{state: 12}
	right, rightOfLate, faults, late := 0, 0, 0, 0
	for i := range 800 {
		p := d.program([]int{0, 1, 2, 4, 8, 16}[i%6])
		checkDrawn(t, p)
		lets := 0
		for i := range p.Decls {
			lets += len(Late(p, i))
		}
		if Right(p) {
			right++
			rightOfLate += min(1, lets)
			checkThere(t, p)
		}
		faults += len(Faults(p))
		late += lets
		if t.Failed() {
			t.Fatalf("%v", p)
		}
	}
	if right < 200 || right > 600 || rightOfLate < 30 || faults < 800 || late < 800 {
		t.Errorf("%d were right, %d of these with late lets; %d faults, %d late lets", right, rightOfLate, faults, late)
	}
}

// Trees too deep for nested calls, and such as have too many numbers to be walked, are asked, too.
func TestGreatTrees(t *testing.T) { // P12.1, P12.2, rule 1
	const deep = 50_000
	defer debug.SetMaxStack(debug.SetMaxStack(2 << 20))
	for _, next := range []func(i int) api.Expr{
		func(i int) api.Expr { return api.Expr{Kind: api.ExNeg, A: i} },
		func(i int) api.Expr { return api.Expr{Kind: api.ExAdd, A: i, B: i} },
		func(i int) api.Expr { return api.Expr{Kind: api.ExIf, A: 1, B: i, C: i} },
		func(i int) api.Expr { return api.Expr{Kind: api.ExArrow, A: i, B: 0} },
	} {
		l := []api.Expr{{Kind: api.ExFix, At: 1}, {Kind: api.ExBool, V: 1}, {Kind: api.ExPre, At: 2}}
		for i := range deep {
			l = append(l, next(i+2))
		}
		last := len(l) - 1
		l[last].At = 3
		l = append(l, api.Expr{Kind: api.ExPre, A: last, At: 4})
		items := []api.Item{{Kind: api.ItLet, Name: "y", Type: 1, E: last}, {Kind: api.ItLet, Name: "z", Type: 1}}
		p := api.Program{Exprs: l, Decls: []api.Decl{{Kind: api.DeHybrid, Name: "m"}, {Kind: api.DeNode, Name: "n", Type: 1, Items: items}}}
		checkLate(t, "a great tree", p, 1, 0)
		checkIs(t, "a great tree", p, 0, last, true)
		checkFaults(t, "a great tree", p)
		p.Decls[1].E = last
		checkFaults(t, "a great tree", p, 3)
		items[1].E = last + 1
		checkFaults(t, "a great tree", p, 3)
		p.Decls[1].E = last + 1
		checkFaults(t, "a great tree", p, 3, 4)
		p.Exprs[2] = api.Expr{Kind: api.ExFby, At: 2}
		checkFaults(t, "a great tree", p, 4)
		checkLate(t, "a great tree", p, 1, 1)
		checkIs(t, "a great tree", p, 1, last, false)
	}
}

// chain is a node of lets each of which is the one so many items on, but for the item last, which is a pre; it is what its first let is.
func chain(count, step, last int) api.Program {
	n := api.Decl{Kind: api.DeNode, Name: "n", Type: 1}
	p := api.Program{}
	for i := range count {
		p.Exprs = append(p.Exprs, api.Expr{Kind: api.ExName, Name: "z" + strconv.Itoa((i+step)%count), At: i})
		n.Items = append(n.Items, api.Item{Kind: api.ItLet, Name: "z" + strconv.Itoa(i), Type: 1, E: i})
	}
	p.Exprs[last] = api.Expr{Kind: api.ExFix}
	p.Exprs = append(p.Exprs, api.Expr{Kind: api.ExPre, A: last})
	n.Items[last].E = count
	p.Decls = []api.Decl{n, {Kind: api.DeHybrid, Name: "m"}}
	return p
}

// numbers are those from 0 on.
func numbers(count int) []int {
	l := make([]int, count)
	for i := range l {
		l[i] = i
	}
	return l
}

// Many lets, in chains of either direction, are asked in few steps; so are many names of one, and many arguments.
func TestMany(t *testing.T) { // P12.1, P12.2, rule 1
	const many = 50_000
	defer debug.SetMaxStack(debug.SetMaxStack(2 << 20))
	for step, last := range map[int]int{1: many - 1, many - 1: 0, 7: 5} {
		p := chain(many, step, last)
		checkLate(t, "a chain", p, 0, numbers(many)...)
		checkIs(t, "a chain", p, 0, (last+2*step)%many, true)
		checkIs(t, "a chain", p, 1, (last+2*step)%many, false)
		p.Decls[0].E = (last + 3*step) % many
		checkFaults(t, "a chain", p, p.Decls[0].E)
		p.Decls[0].Items[last].E = last
		checkLate(t, "a chain", p, 0)
		checkFaults(t, "a chain", p)
	}
	// Lets that all name the first one, and a call of all of their names.
	p := chain(many, 0, 0)
	call := api.Expr{Kind: api.ExCall, Name: "f", Args: numbers(many)}
	f := api.Decl{Kind: api.DeFun, Name: "f", Type: 1}
	for i := range many {
		f.Params = append(f.Params, api.Param{Name: strconv.Itoa(i), Type: 1})
		p.Exprs[i].Name, p.Exprs[i].Kind = "z0", api.ExName
	}
	p.Exprs[0] = api.Expr{Kind: api.ExFix}
	p.Exprs = append(p.Exprs, call)
	p.Decls[0].E = len(p.Exprs) - 1
	p.Decls = append(p.Decls, f)
	checkLate(t, "a star", p, 0, numbers(many)...)
	checkFaults(t, "a star", p, numbers(many)[1:]...)
	checkIs(t, "a star", p, 0, p.Decls[0].E, false)
	p.Decls[0].Items[0].E = 0
	checkLate(t, "a star", p, 0)
	checkFaults(t, "a star", p)
}

// Many small declarations beside a great one cost little, and so do some that have its tree.
func TestManyDeclarations(t *testing.T) { // P12.2, rule 1
	const many, deep = 300, 3000
	p := api.Program{Exprs: []api.Expr{{Kind: api.ExFix}, {Kind: api.ExPre, At: 3}}, Decls: []api.Decl{{Kind: api.DeHybrid, Name: "m"}}}
	for i := range deep {
		p.Exprs = append(p.Exprs, api.Expr{Kind: api.ExSub, A: i + 1, B: i + 1, At: i})
	}
	var want []int
	for i := range many {
		e := deep + 1
		if i%2 == 0 {
			e = i + 2
			want = append(want, i)
		}
		p.Decls = append(p.Decls, api.Decl{Kind: api.DeNode, Type: 1, Name: "n" + strconv.Itoa(i), E: e})
	}
	checkFaults(t, "many declarations", p, append(want, deep-1)...)
}

// As many lets as a text may have, of several nodes.
func TestManyOfText(t *testing.T) { // P12.1, P12.2
	s, want := "", []int(nil)
	for d := range 8 {
		s += "node n" + strconv.Itoa(d) + "(): fix { let z0: fix = pre 1; "
		for i := range 80 {
			s += "let z" + strconv.Itoa(i+1) + ": fix = -z" + strconv.Itoa(i*d/8) + "; "
		}
		s += "return "
		want = append(want, len(s))
		s += "z80; } "
	}
	p := read(t, s+"hybrid m() { }")
	checkFaults(t, "of text", p, want...)
	for d := range 8 {
		checkLate(t, "of text", p, d, numbers(81)...)
	}
}

// Nothing that is handed in is changed, or shared with an answer.
func TestMemory(t *testing.T) { // rule 5
	build := func() api.Program {
		items := []api.Item{{Kind: api.ItLet, Name: "y", Type: 1, E: 1}, {Kind: api.ItLet, Name: "z", Type: 1, E: 2}, {Kind: api.ItLet, Name: "spare", E: 7}}[:2]
		params := []api.Param{{Name: "u", Type: 1}, {Name: "spare", Type: 2}}[:1]
		exprs := []api.Expr{{Kind: api.ExName, Name: "u", At: 5}, {Kind: api.ExPre, A: 0, At: 6}, {Kind: api.ExCall, Name: "g", Args: []int{0, 77}[:1]}, {Kind: api.ExBool, V: 9}}[:3]
		return api.Program{Exprs: exprs, Decls: []api.Decl{
			{Kind: api.DeNode, Name: "n", Type: 1, Params: params, Items: items, E: 2}, {Kind: api.DeFun, Name: "g", Type: 1, Params: params}, {Kind: api.DeHybrid, Name: "m"}, {Name: "spare"},
		}[:3]}
	}
	p := build()
	late := Late(p, 0)
	if !slices.Equal(late, []int{0}) {
		t.Fatal(late)
	}
	late[0] = 50
	checkLate(t, "asked again", p, 0, 0)
	checkIs(t, "memory", p, 0, 1, true)
	checkFaults(t, "memory", p)
	p.Exprs[2].Args[0] = 1
	faults := Faults(p)
	if !slices.Equal(faults, faultsAt([]int{6})) {
		t.Fatal(faults)
	}
	faults[0].At = 50
	checkFaults(t, "asked again", p, 6)
	p.Exprs[2].Args[0] = 0
	if q := build(); !reflect.DeepEqual(p, q) || !reflect.DeepEqual(spare(p), spare(q)) {
		t.Error("what was handed in is changed")
	}
}

// spare is what lies behind the ends of a program's lists.
func spare(p api.Program) []any {
	d := p.Decls[0]
	return []any{p.Decls[:4][3], d.Params[:2][1], d.Items[:3][2], p.Exprs[:4][3], p.Exprs[2].Args[:2][1]}
}
