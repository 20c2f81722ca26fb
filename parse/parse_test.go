package parse

import (
	"reflect"
	"slices"
	"strings"
	"testing"

	"astrolabe/api"
	"astrolabe/ast"
	"astrolabe/lex"
)

const one = api.One

func fix(v int64, at int) api.Expr { return api.Expr{Kind: api.ExFix, V: v, At: at} }
func truth(v int64, at int) api.Expr {
	return api.Expr{Kind: api.ExBool, V: v, At: at}
}
func name(s string, at int) api.Expr { return api.Expr{Kind: api.ExName, Name: s, At: at} }
func is(s, state string, at int) api.Expr {
	return api.Expr{Kind: api.ExIs, Name: s, State: state, At: at}
}
func call(s string, at int, args ...int) api.Expr {
	return api.Expr{Kind: api.ExCall, Name: s, Args: args, At: at}
}
func of(kind, at int, parts ...int) api.Expr {
	abc := append(parts, 0, 0, 0)
	return api.Expr{Kind: kind, A: abc[0], B: abc[1], C: abc[2], At: at}
}

// even has a program with nil for empty lists.
func even(p api.Program) api.Program {
	evenDecl := func(d api.Decl) api.Decl {
		d.Params, d.Items = orNil(d.Params), orNil(d.Items)
		for i := range d.Items {
			d.Items[i].States = orNil(d.Items[i].States)
		}
		return d
	}
	var q api.Program
	for _, d := range p.Decls {
		q.Decls = append(q.Decls, evenDecl(d))
	}
	for _, x := range p.Exprs {
		x.Args = orNil(x.Args)
		q.Exprs = append(q.Exprs, x)
	}
	return q
}

func orNil[T any](l []T) []T {
	if len(l) == 0 {
		return nil
	}
	return slices.Clone(l)
}

func same(p, q api.Program) bool { return reflect.DeepEqual(even(p), even(q)) }

// checkExpr asks for a text's expressions, the last of which it must be.
func checkExpr(t *testing.T, s string, want ...api.Expr) {
	t.Helper()
	p, e, fault := Expr(s)
	if fault != (api.Fault{}) || e != len(want)-1 || !same(p, api.Program{Exprs: want}) {
		t.Errorf("Expr(%q): %v, %d, %v", s, p, e, fault)
	}
}

// checkFaults asks for faults: of whole programs, or of exprs alone.
func checkFaults(t *testing.T, alone bool, code api.Errno, cases map[string]int) {
	t.Helper()
	for s, at := range cases {
		p, fault := Parse(s)
		e := 0
		if alone {
			p, e, fault = Expr(s)
		}
		if fault != (api.Fault{Code: code, At: at}) || !same(p, api.Program{}) || e != 0 {
			t.Errorf("%q: %v, %d, %v, wanted %d at %d", s, p, e, fault, code, at)
		}
	}
}

func TestExpr(t *testing.T) { // P5.2
	checkExpr(t, "1 + 2 * x", fix(one, 0), fix(2*one, 4), name("x", 8), of(api.ExMul, 6, 1, 2), of(api.ExAdd, 2, 0, 3))
	checkExpr(t, "0", fix(0, 0))
	checkExpr(t, " 10.5 # ten\n", fix(21*one/2, 1))
	checkExpr(t, "true", truth(1, 0))
	checkExpr(t, " false", truth(0, 1))
	checkExpr(t, "x", name("x", 0))
	checkExpr(t, " M is A", is("M", "A", 1))
	checkExpr(t, " f()", call("f", 1))
	checkExpr(t, "f ( x )", name("x", 4), call("f", 0, 0))
	checkExpr(t, "f(1, g(x), y)", fix(one, 2), name("x", 7), call("g", 5, 1), name("y", 11), call("f", 0, 0, 2, 3))
	checkExpr(t, " if a then b else c", name("a", 4), name("b", 11), name("c", 18), of(api.ExIf, 1, 0, 1, 2))
	checkExpr(t, " - x", name("x", 3), of(api.ExNeg, 1, 0))
	checkExpr(t, "not x", name("x", 4), of(api.ExNot, 0, 0))
	checkExpr(t, "pre x", name("x", 4), of(api.ExPre, 0, 0))
	checkExpr(t, "sqrt x", name("x", 5), of(api.ExSqrt, 0, 0))
	checkExpr(t, "-not pre sqrt x", name("x", 14), of(api.ExSqrt, 9, 0), of(api.ExPre, 5, 1), of(api.ExNot, 1, 2), of(api.ExNeg, 0, 3))
	checkExpr(t, "--1", fix(one, 2), of(api.ExNeg, 1, 0), of(api.ExNeg, 0, 1))
	signs := map[string]int{"+": api.ExAdd, "-": api.ExSub, "*": api.ExMul, "/": api.ExDiv, "<": api.ExLess, "<=": api.ExMost, "==": api.ExSame, "and": api.ExAnd, "or": api.ExOr, "->": api.ExArrow, "fby": api.ExFby}
	for sign, kind := range signs {
		checkExpr(t, "x "+sign+" y", name("x", 0), name("y", len(sign)+3), of(kind, 2, 0, 1))
	}
}

func TestBrackets(t *testing.T) { // P5.2: they make none, and what they are of stands where it stands alone
	checkExpr(t, "((x))", name("x", 2))
	checkExpr(t, "(1 + x) * 2", fix(one, 1), name("x", 5), of(api.ExAdd, 3, 0, 1), fix(2*one, 10), of(api.ExMul, 8, 2, 3))
	checkExpr(t, "-(x)", name("x", 2), of(api.ExNeg, 0, 0))
	checkExpr(t, "f((x))", name("x", 3), call("f", 0, 0))
	checkExpr(t, "(if a then b else c) + d", name("a", 4), name("b", 11), name("c", 18), of(api.ExIf, 1, 0, 1, 2), name("d", 23), of(api.ExAdd, 21, 3, 4))
}

// checkSame asks for texts that are the same but for brackets.
func checkSame(t *testing.T, cases map[string]string) {
	t.Helper()
	for a, b := range cases {
		p, e, f := Expr(a)
		q, d, g := Expr(b)
		if f.Code != api.OK || g.Code != api.OK || !ast.Same(p, e, q, d) {
			t.Errorf("%q isn't %q: %v, %v", a, b, f, g)
		}
	}
}

func TestBinding(t *testing.T) { // P5.1, P5.2
	checkSame(t, map[string]string{
		"a - b + c - d":                  "((a - b) + c) - d",
		"a / b * c / d":                  "((a / b) * c) / d",
		"a and b and c":                  "(a and b) and c",
		"a or b or c":                    "(a or b) or c",
		"a -> b -> c":                    "a -> (b -> c)",
		"a fby b -> c fby d":             "a fby (b -> (c fby d))",
		"a -> b or c and d < e + f * -g": "a -> (b or (c and (d < (e + (f * (-g))))))",
		"-a * b + c < d and e or f -> g": "((((((-a) * b) + c) < d) and e) or f) -> g",
		"a + b <= c - d":                 "(a + b) <= (c - d)",
		"a == b and c < d":               "(a == b) and (c < d)",
		"a and b or c and d":             "(a and b) or (c and d)",
		"not a == b":                     "(not a) == b",
		"pre a + sqrt b":                 "(pre a) + (sqrt b)",
		"- M is A":                       "- (M is A)",
		"M is A and N is B":              "(M is A) and (N is B)",
		"f(a) * g(b)":                    "(f(a)) * (g(b))",
		"if a then b else c -> d":        "if a then b else (c -> d)",
		"if a -> b then c fby d else e":  "if (a -> b) then (c fby d) else e",
		"if a then if b then c else d else if e then f else g": "if a then (if b then c else d) else (if e then f else g)",
		"a -> if b then c else d":                              "a -> (if b then c else d)",
		"f(a -> b, if c then d else e)":                        "f((a -> b), (if c then d else e))",
	})
}

func TestFun(t *testing.T) { // P5.1
	p, fault := Parse(" fun f(): fix = 1; fun g(a: bool): bool = a;\nfun h(a: fix, b: bool, a: fix): fix = a;")
	want := api.Program{
		Decls: []api.Decl{
			{Kind: api.DeFun, Name: "f", Type: api.TypeFix, E: 0, At: 1},
			{Kind: api.DeFun, Name: "g", Params: []api.Param{{Name: "a", Type: api.TypeBool}}, Type: api.TypeBool, E: 1, At: 19},
			{Kind: api.DeFun, Name: "h", Params: []api.Param{{Name: "a", Type: api.TypeFix}, {Name: "b", Type: api.TypeBool}, {Name: "a", Type: api.TypeFix}}, Type: api.TypeFix, E: 2, At: 45},
		},
		Exprs: []api.Expr{fix(one, 16), name("a", 42), name("a", 83)},
	}
	if fault != (api.Fault{}) || !same(p, want) {
		t.Error(fault, p)
	}
}

func TestNode(t *testing.T) { // P5.1
	p, fault := Parse("node f(): fix { return 1; } node g(b: bool): bool { let n: fix = 0; let m: bool = b; return m; }")
	want := api.Program{
		Decls: []api.Decl{
			{Kind: api.DeNode, Name: "f", Type: api.TypeFix, E: 0},
			{Kind: api.DeNode, Name: "g", Params: []api.Param{{Name: "b", Type: api.TypeBool}}, Type: api.TypeBool, E: 3, At: 28, Items: []api.Item{
				{Kind: api.ItLet, Name: "n", Type: api.TypeFix, E: 1, At: 52},
				{Kind: api.ItLet, Name: "m", Type: api.TypeBool, E: 2, At: 68},
			}},
		},
		Exprs: []api.Expr{fix(one, 23), fix(0, 65), name("b", 82), name("m", 92)},
	}
	if fault != (api.Fault{}) || !same(p, want) {
		t.Error(fault, p)
	}
}

func TestHybrid(t *testing.T) { // P5.1
	p, fault := Parse("hybrid e() { } hybrid m(u: fix, v: bool) { let a: bool = v; der x = 1 init 2; reset y on 3 = 4;\n" +
		"mem k: bool init 5; on 6 set j = 7; mode M {A}; mode N {A, B, A}; from M.A on 8 goto B; out z; }")
	want := api.Program{
		Decls: []api.Decl{
			{Kind: api.DeHybrid, Name: "e"},
			{Kind: api.DeHybrid, Name: "m", Params: []api.Param{{Name: "u", Type: api.TypeFix}, {Name: "v", Type: api.TypeBool}}, At: 15, Items: []api.Item{
				{Kind: api.ItLet, Name: "a", Type: api.TypeBool, E: 0, At: 43},
				{Kind: api.ItDer, Name: "x", E: 1, F: 2, At: 60},
				{Kind: api.ItReset, Name: "y", E: 4, F: 3, At: 78},
				{Kind: api.ItMem, Name: "k", Type: api.TypeBool, E: 5, At: 96},
				{Kind: api.ItOn, Name: "j", E: 7, F: 6, At: 116},
				{Kind: api.ItMode, Name: "M", States: []string{"A"}, At: 132},
				{Kind: api.ItMode, Name: "N", States: []string{"A", "B", "A"}, At: 144},
				{Kind: api.ItFrom, Name: "M", State: "A", Next: "B", F: 8, At: 162},
				{Kind: api.ItOut, Name: "z", At: 184},
			}},
		},
		Exprs: []api.Expr{name("v", 57), fix(one, 68), fix(2*one, 75), fix(3*one, 89), fix(4*one, 93), fix(5*one, 113), fix(6*one, 119), fix(7*one, 129), fix(8*one, 174)},
	}
	if fault != (api.Fault{}) || !same(p, want) {
		t.Error(fault, p)
	}
}

func TestNothing(t *testing.T) { // P5.1: a text without declarations is a program
	for _, s := range []string{"", " ", "\n\t\r", "# nothing", "#\n#"} {
		if p, fault := Parse(s); fault != (api.Fault{}) || !same(p, api.Program{}) {
			t.Errorf("Parse(%q): %v, %v", s, p, fault)
		}
		checkFaults(t, true, api.ErrSyntax, map[string]int{s: len(s)})
	}
}

func TestSyntax(t *testing.T) { // P5.1
	checkFaults(t, false, api.ErrSyntax, map[string]int{
		"x":                                     0,
		" ;":                                    1,
		"1":                                     0,
		"let a: fix = 1;":                       0,
		"fun":                                   3,
		"fun fun(): fix = 1;":                   4,
		"fun 1(): fix = 1;":                     4,
		"fun f: fix = 1;":                       5,
		"fun f() = 1;":                          8,
		"fun f(a): fix = 1;":                    7,
		"fun f(a:): fix = 1;":                   8,
		"fun f(a: x): fix = 1;":                 9,
		"fun f(a: fix,): fix = 1;":              13,
		"fun f(,a: fix): fix = 1;":              6,
		"fun f(a: fix b: fix): fix = 1;":        13,
		"fun f(a, b: fix): fix = 1;":            7,
		"fun f(): int = 1;":                     9,
		"fun f(): fix { return 1; }":            13,
		"fun f(): fix = ;":                      15,
		"fun f(): fix = 1":                      16,
		"fun f(): fix = 1;;":                    17,
		"fun f(): fix = 1; x":                   18,
		"fun f(): fix = 1; }":                   18,
		"node g(): fix { }":                     16,
		"node g(): fix { return 1 }":            25,
		"node g(): fix { return 1;":             25,
		"node g(): fix { return 1; return 1; }": 26,
		"node g(): fix { return 1; let a: fix = 1; }": 26,
		"node g(): fix { der x = 1 init 1; }":         16,
		"node g(): fix { out x; return 1; }":          16,
		"node g(): fix { let a = 1; return 1; }":      22,
		"node g() { return 1; }":                      9,
		"node g(): fix = 1;":                          14,
		"hybrid m(): fix { }":                         10,
		"hybrid m() { return 1; }":                    13,
		"hybrid m() {":                                12,
		"hybrid m() { };":                             14,
		"hybrid m() { let x: int = 1; }":              20,
		"hybrid m() { x = 1; }":                       13,
		"hybrid m() { up x; }":                        13,
		"hybrid m() { der x = 1; }":                   22,
		"hybrid m() { der x: fix = 1 init 1; }":       18,
		"hybrid m() { der x init 1; }":                19,
		"hybrid m() { reset x = 1 on 1; }":            21,
		"hybrid m() { reset x on 1; }":                25,
		"hybrid m() { mem k init 1; }":                19,
		"hybrid m() { mem k: fix = 1; }":              24,
		"hybrid m() { on x set 1; }":                  22,
		"hybrid m() { on x k = 1; }":                  18,
		"hybrid m() { on set k = 1; }":                16,
		"hybrid m() { mode M {}; }":                   21,
		"hybrid m() { mode M { A, }; }":               25,
		"hybrid m() { mode M { A B }; }":              24,
		"hybrid m() { mode M { 1 }; }":                22,
		"hybrid m() { mode M { A } }":                 26,
		"hybrid m() { from M A on 1 goto B; }":        20,
		"hybrid m() { from M.1 on 1 goto B; }":        20,
		"hybrid m() { from M.A on 1 goto M.B; }":      33,
		"hybrid m() { from M.A goto B; }":             22,
		"hybrid m() { out 1; }":                       17,
		"hybrid m() { out x, y; }":                    18,
		"hybrid m() { out x }":                        19,
	})
}

func TestExprSyntax(t *testing.T) { // P5.1, P5.2
	checkFaults(t, true, api.ErrSyntax, map[string]int{
		"x y": 2, "1;": 1, "(1": 2, "1)": 1, "()": 1, "(1, 2)": 2,
		"1 +": 3, "+ 1": 0, "1 + * 2": 4, "1 < 2 < 3": 6, "1 <= 2 == 3": 7, "1 < = 2": 4, "a = b": 2,
		"a -> ": 5, "-> a": 0, "a fby fby b": 6, "a or and b": 5,
		"if a then b": 11, "if a else b": 5, "if then b else c": 3, "if a then b else": 16, "1 + if a then b else c": 4, "- if a then b else c": 2,
		"not": 3, "sqrt": 4, "pre ": 4, "sqrt(": 5, "a not b": 2, "a pre": 2,
		"f(": 2, "f(,)": 2, "f(a,)": 4, "f(a b)": 4, "f(a": 3, "f()()": 3, "(f)(a)": 3, "1(a)": 1,
		"x is": 4, "x is 1": 5, "x is true": 5, "(x) is A": 4, "x is A is B": 7, "f(x) is A": 5, "is A": 0, "true is A": 5, "1 is A": 2, "x is (A)": 5,
		"x.y": 1, "1 .5": 2, "fix": 0, "let": 0, "fun f(): fix = 1;": 0, "x: fix": 1, "true false": 5, "{1}": 0,
	})
}

func TestLayerThree(t *testing.T) { // P5.1, P5.2: its fault is told first, wherever it stands
	cases := map[string]int{
		"@": 0, "fun f(): fix = @;": 15, ") ) >": 4, "x @": 2, "fun f(): fix = 1; # @\n%": 22, "abcdefghijklmnopq": 0, "1 + 2147483648": 4, "01": 0,
		strings.Repeat("(", 40) + "!": 40, strings.Repeat("(", 40) + ") 12345678901": 42,
	}
	checkFaults(t, false, api.ErrLex, cases)
	checkFaults(t, true, api.ErrLex, cases)
	most := strings.Repeat("x + ", 4999) + "x"
	most += strings.Repeat(" ", 20000-len(most))
	if p, e, fault := Expr(most); fault != (api.Fault{}) || e != 9998 || len(p.Exprs) != 9999 {
		t.Error(fault, e, len(p.Exprs))
	}
	room := map[string]int{most + " ": 0, strings.Repeat("@", 20001): 0, strings.Repeat("(", 20001): 0}
	checkFaults(t, false, api.ErrRoom, room)
	checkFaults(t, true, api.ErrRoom, room)
}

// a nest is what may stand around an expr or a prefix, how much deeper that stands in it, and where in it the first so deep begins.
type nest struct {
	ahead, behind string
	deeper, first int
}

var nests = []nest{
	{"(", ")", 2, 1}, {"f(", ")", 2, 2}, {"f(x, ", ", y)", 2, 2},
	{"-", "", 1, 1}, {"not ", "", 1, 4}, {"pre ", "", 1, 4}, {"sqrt ", "", 1, 5},
	{"if ", " then x else y", 1, 3}, {"if x then ", " else y", 1, 3}, {"if x then y else ", "", 1, 3},
	{"x -> ", "", 1, 5}, {"x fby ", "", 1, 6}, {"x + y -> ", "", 1, 9},
}

// nested has so many of them around x, and where the first so deep begins.
func nested(n nest, times int) (string, int) {
	return strings.Repeat(n.ahead, times) + "x" + strings.Repeat(n.behind, times), len(n.ahead)*(times-1) + n.first
}

func TestDepth(t *testing.T) { // P5.1, P5.2
	for _, n := range nests {
		// The first expr is 1 deep, its first prefix 2: what stands in so many more is 30 deep.
		times := 28 / n.deeper
		s, at := nested(n, times)
		if _, _, fault := Expr(s); fault != (api.Fault{}) {
			t.Errorf("Expr(%q): %v", s, fault)
		}
		if _, fault := Parse("hybrid m() { on " + s + " set x = " + s + "; der x = " + s + " init " + s + "; }"); fault != (api.Fault{}) {
			t.Errorf("%q: %v", s, fault)
		}
		s, at = nested(n, times+1)
		checkFaults(t, true, api.ErrDepth, map[string]int{s: at, s[:at]: at, s[:at] + ";": at, s + " )": at})
		checkFaults(t, false, api.ErrDepth, map[string]int{"fun f(): fix = " + s + ";": 15 + at})
		s, _ = nested(n, 40)
		if got, want := told(Expr(s)), modelFault(s, "expr"); got != want || got.Code != api.ErrDepth {
			t.Errorf("Expr(%q): %v, wanted %v", s, got, want)
		}
	}
}

func told(_ api.Program, _ int, fault api.Fault) api.Fault { return fault }

func TestDepthAndSyntax(t *testing.T) { // P5.1
	ahead := strings.Repeat("(", 15)
	checkFaults(t, true, api.ErrDepth, map[string]int{
		ahead: 15, ahead + ")": 15, ahead + "x": 15, ahead + " )": 16, ahead + "* 1": 15, ahead + "fun": 15, ahead + "((((": 15,
		strings.Repeat("-", 29): 29, strings.Repeat("-", 30): 29, strings.Repeat("-", 29) + "+ 1": 29, strings.Repeat("-", 29) + "1": 29,
		strings.Repeat("-", 28) + "(1": 29, strings.Repeat("-", 28) + "f(1)": 30, strings.Repeat("-", 28) + "f(;": 30, strings.Repeat("-", 28) + "f(": 30,
		strings.Repeat("x -> ", 29): 145, strings.Repeat("x -> ", 29) + "if 1": 148, strings.Repeat("x -> ", 29) + "if": 147, strings.Repeat("x -> ", 29) + ")": 145,
		"1 + " + ahead + "1": 19, "f(1, " + strings.Repeat("(", 14) + "1": 19,
		ahead[1:] + "1 + (x": 19, ahead[1:] + "-x": 15, ahead[1:] + "-": 15,
	})
	checkFaults(t, true, api.ErrSyntax, map[string]int{
		ahead[1:] + ")": 14, ahead[1:]: 14, ") " + ahead + "1": 0, "1 1 " + ahead + "1": 2, ahead[1:] + "1 1" + ahead: 16,
		strings.Repeat("-", 28): 28, strings.Repeat("-", 28) + "f() f": 32,
	})
	// What is so deep behind the first fault isn't reached; what is ahead of it is told.
	checkFaults(t, false, api.ErrSyntax, map[string]int{"fun f() = " + ahead + "1": 8})
	checkFaults(t, false, api.ErrDepth, map[string]int{"fun f(): fix = " + ahead + "1 1": 30, "fun f(): fix = " + ahead + "1" + strings.Repeat(")", 15) + " 1": 30})
}

func TestDepthLimit(t *testing.T) { // P5.1: those that may be just so deep
	for _, s := range []string{
		strings.Repeat("(", 14) + "1" + strings.Repeat(")", 14),
		strings.Repeat("(", 14) + "1 + 2 * x < y and z or f()" + strings.Repeat(")", 14),
		strings.Repeat("-", 28) + "1",
		strings.Repeat("-", 28) + "f()",
		strings.Repeat("-", 28) + "x is A",
		strings.Repeat("x -> ", 28) + "x",
		strings.Repeat("(", 14) + "1" + strings.Repeat(")", 14) + " + " + strings.Repeat("(", 14) + "1" + strings.Repeat(")", 14),
		strings.Repeat("1 + ", 1000) + strings.Repeat("(", 14) + "1" + strings.Repeat(")", 14),
	} {
		if fault := told(Expr(s)); fault != (api.Fault{}) {
			t.Errorf("Expr(%q): %v", s, fault)
		}
	}
}

// texts calls with whole programs drawn at random, and what they are.
func texts(n int, call func(s string, p api.Program)) {
	for i := range n {
		w := &writer{state: uint64(i), most: 4 + i%27}
		w.program(i % 5)
		if w.b.Len() <= api.MaxText {
			call(w.b.String(), w.p)
		}
	}
}

func TestWritten(t *testing.T) { // P5.1, P5.3
	texts(6000, func(s string, want api.Program) {
		p, fault := Parse(s)
		if fault != (api.Fault{}) || !same(p, want) || !ast.May(p) {
			t.Fatalf("Parse(%q): %v, %v, wanted %v", s, p, fault, want)
		}
	})
}

func TestWrittenExpr(t *testing.T) { // P5.2, P5.3
	for i := range 20000 {
		w := &writer{state: uint64(i), most: 4 + i%27}
		want := w.exprBehind()
		s := w.b.String()
		if len(s) > api.MaxText {
			continue
		}
		p, e, fault := Expr(s)
		if fault != (api.Fault{}) || e != want || !same(p, w.p) || !ast.May(p) {
			t.Fatalf("Expr(%q): %v, %d, %v, wanted %d of %v", s, p, e, fault, want, w.p)
		}
	}
}

// changed has one to three tokens of a text taken out, put in, or put for another one; or ends it.
func changed(w *writer, s string) string {
	l, _ := lex.Lex(s)
	texts := strings.Fields("fun node hybrid let der init reset on up mem mode from goto out if then else pre fby true false not and or is sqrt return set fix bool -> <= == ( ) { } , ; : = + - * / < . x 1 1.5")
	for range 1 + w.draw(3) {
		at := w.draw(len(l))
		more := []api.Token{{Text: texts[w.draw(len(texts))]}}
		if w.draw(4) == 0 {
			more[0].Text = strings.Repeat("( ", 1+w.draw(20))
		}
		switch w.draw(4) {
		case 0:
			l = slices.Insert(l, at, more...)
		case 1:
			l = slices.Replace(l, at, at+1, more...)
		case 2:
			l = slices.Delete(l, at, min(at+1, len(l)-1))
		case 3:
			if w.draw(4) == 0 {
				l = l[:at+1]
			}
		}
	}
	return lex.Join(l)
}

func TestChanged(t *testing.T) { // P5.1, P5.2
	counts := map[api.Errno]int{}
	texts(2000, func(s string, _ api.Program) {
		w := &writer{state: uint64(len(s)), most: 30}
		for range 5 {
			c := changed(w, s)
			if len(c) > 2000 {
				continue
			}
			want := modelFault(c, "program")
			counts[want.Code]++
			if p, got := Parse(c); got != want || got.Code != api.OK && !same(p, api.Program{}) || !ast.May(p) {
				t.Fatalf("Parse(%q): %v, wanted %v at %q", c, got, want, c[want.At:])
			}
		}
	})
	for i := range 10000 {
		w := &writer{state: uint64(i), most: 4 + i%27}
		w.exprBehind()
		c := changed(w, w.b.String())
		if len(c) > 2000 {
			continue
		}
		want := modelFault(c, "expr")
		counts[want.Code]++
		if got := told(Expr(c)); got != want {
			t.Fatalf("Expr(%q): %v, wanted %v", c, got, want)
		}
	}
	if counts[api.OK] < 1000 || counts[api.ErrSyntax] < 1000 || counts[api.ErrDepth] < 500 {
		t.Error(counts)
	}
}

func TestAnyBytes(t *testing.T) { // every text has a program or a fault
	w := &writer{state: 5}
	for range 20000 {
		l := make([]byte, w.draw(60))
		for i := range l {
			l[i] = byte(w.draw(256))
			if w.draw(4) > 0 {
				l[i] = "()+-1x;,{}=:<."[w.draw(14)]
			}
		}
		s := string(l)
		if _, got := Parse(s); got != modelFault(s, "program") {
			t.Fatalf("Parse(%q): %v", s, got)
		}
		if got := told(Expr(s)); got != modelFault(s, "expr") {
			t.Fatalf("Expr(%q): %v", s, got)
		}
	}
}

func TestNewMemory(t *testing.T) { // an answer's lists share nothing, their spare room neither
	s := "fun f(a: fix, b: fix, c: fix): fix = f(1, 2, 3) + f(f(4, 5, 6), 7, 8);" +
		"hybrid m(a: fix, b: fix, c: fix) { mode M {A, B, C}; mode N {D, E, F}; out x; out y; out z; }"
	p, _ := Parse(s)
	q, _ := Parse(s)
	want := even(p)
	spoil(&p)
	if !same(q, want) {
		t.Error("two answers share a list")
	}
	r, _ := Parse(s)
	if !same(r, want) {
		t.Error("an answer is kept")
	}
	for i, x := range q.Exprs {
		q.Exprs[i].Args = append(x.Args, -1)
	}
	for i, d := range q.Decls {
		q.Decls[i].Params = append(d.Params, api.Param{Name: "?"})
		for j, it := range d.Items {
			d.Items[j].States = append(it.States, "?")
		}
		q.Decls[i].Items = append(d.Items, api.Item{Name: "?"})
	}
	for i, x := range want.Exprs {
		if !slices.Equal(q.Exprs[i].Args[:len(x.Args)], x.Args) {
			t.Error("lists of one answer share room")
		}
	}
	for i, d := range want.Decls {
		if !slices.Equal(q.Decls[i].Params[:len(d.Params)], d.Params) {
			t.Error("lists of one answer share room")
		}
		for j, it := range d.Items {
			if !slices.Equal(q.Decls[i].Items[j].States[:len(it.States)], it.States) {
				t.Error("lists of one answer share room")
			}
		}
	}
}

// spoil writes over all the lists of a program.
func spoil(p *api.Program) {
	for _, x := range p.Exprs {
		clear(x.Args)
	}
	for _, d := range p.Decls {
		for _, it := range d.Items {
			clear(it.States)
		}
		clear(d.Params)
		clear(d.Items)
	}
	clear(p.Exprs)
	clear(p.Decls)
}
