package show

import (
	"math"
	"reflect"
	"runtime/debug"
	"slices"
	"strings"
	"testing"
	"unsafe"

	"astrolabe/api"
	"astrolabe/ast"
	"astrolabe/lex"
	"astrolabe/parse"
)

func fix(v int64) api.Expr        { return api.Expr{Kind: api.ExFix, V: v} }
func truth(v int64) api.Expr      { return api.Expr{Kind: api.ExBool, V: v} }
func name(s string) api.Expr      { return api.Expr{Kind: api.ExName, Name: s} }
func one(kind, a int) api.Expr    { return api.Expr{Kind: kind, A: a} }
func two(kind, a, b int) api.Expr { return api.Expr{Kind: kind, A: a, B: b} }
func is(s, state string) api.Expr { return api.Expr{Kind: api.ExIs, Name: s, State: state} }
func calling(s string, args ...int) api.Expr {
	return api.Expr{Kind: api.ExCall, Name: s, Args: args}
}

func program(decls []api.Decl, exprs ...api.Expr) api.Program {
	return api.Program{Decls: decls, Exprs: exprs}
}

// checkExpr asks for the text of the last one of these expressions.
func checkExpr(t *testing.T, want string, l ...api.Expr) {
	t.Helper()
	if got := Expr(program(nil, l...), len(l)-1); got != want {
		t.Errorf("Expr: %q, wanted %q", got, want)
	}
}

// checkWritten asks for the text of a text that is an expr.
func checkWritten(t *testing.T, cases map[string]string) {
	t.Helper()
	for s, want := range cases {
		p, e, fault := parse.Expr(s)
		if got := Expr(p, e); fault.Code != api.OK || got != want {
			t.Errorf("%q: %v, %q, wanted %q", s, fault, got, want)
		}
	}
}

// checkForm asks for the form of a text, and whether that is its own form.
func checkForm(t *testing.T, s, want string) {
	t.Helper()
	for _, s := range []string{s, want} {
		if got, fault := Form(s); got != want || fault != (api.Fault{}) {
			t.Errorf("Form(%q): %q, %v, wanted %q", s, got, fault, want)
		}
	}
}

func TestOwnTexts(t *testing.T) { // P6.1
	checkExpr(t, "0", fix(0))
	checkExpr(t, "1", fix(api.One))
	checkExpr(t, "0.25", fix(api.One/4))
	checkExpr(t, "0.09999999986030161380767822265625", fix(429496729))
	checkExpr(t, "0.00000000023283064365386962890625", fix(1))
	checkExpr(t, "2147483647.99999999976716935634613037109375", fix(math.MaxInt64))
	checkExpr(t, "true", truth(1))
	checkExpr(t, "false", truth(0))
	checkExpr(t, "x", name("x"))
	checkExpr(t, "M is S0", is("M", "S0"))
	checkExpr(t, "f()", calling("f"))
	checkExpr(t, "f(x)", name("x"), calling("f", 0))
	checkExpr(t, "f(y, x, y)", name("x"), name("y"), calling("f", 1, 0, 1))
	checkExpr(t, "-x", name("x"), one(api.ExNeg, 0))
	checkExpr(t, "not x", name("x"), one(api.ExNot, 0))
	checkExpr(t, "pre x", name("x"), one(api.ExPre, 0))
	checkExpr(t, "sqrt x", name("x"), one(api.ExSqrt, 0))
	checkExpr(t, "if x then y else z", name("z"), name("y"), name("x"), api.Expr{Kind: api.ExIf, A: 2, B: 1, C: 0})
	for kind, sign := range map[int]string{
		api.ExAdd: "+", api.ExSub: "-", api.ExMul: "*", api.ExDiv: "/", api.ExLess: "<", api.ExMost: "<=", api.ExSame: "==",
		api.ExAnd: "and", api.ExOr: "or", api.ExArrow: "->", api.ExFby: "fby",
	} {
		checkExpr(t, "y "+sign+" x", name("x"), name("y"), two(kind, 1, 0))
		checkExpr(t, "x "+sign+" x", name("x"), two(kind, 0, 0))
	}
}

func TestBrackets(t *testing.T) { // P6.1
	checkWritten(t, map[string]string{
		"(1+2)*-x":                              "(1 + 2) * -x",
		"((x))":                                 "x",
		"(a+b)+c":                               "a + b + c",
		"a+(b+c)":                               "a + (b + c)",
		"a-(b+c)":                               "a - (b + c)",
		"(a-b)+(c*d)":                           "a - b + c * d",
		"(a*b)/c":                               "a * b / c",
		"a*(b/c)":                               "a * (b / c)",
		"a*(b+c)":                               "a * (b + c)",
		"(-a)*(-b)":                             "-a * -b",
		"-(a*b)":                                "-(a * b)",
		"a- -b":                                 "a - -b",
		"- -(-a)":                               "---a",
		"not(pre(sqrt(-a)))":                    "not pre sqrt -a",
		"-(f(a+b))":                             "-f(a + b)",
		"-(M is A)":                             "-M is A",
		"(a<b)==c":                              "(a < b) == c",
		"a<(b<=c)":                              "a < (b <= c)",
		"(a+b)<(c-d)":                           "a + b < c - d",
		"not(a==b)":                             "not (a == b)",
		"(not a)==b":                            "not a == b",
		"a and(b and c)":                        "a and (b and c)",
		"(a and b)and c":                        "a and b and c",
		"(a and b)or(c and d)":                  "a and b or c and d",
		"(a or b)and(c or d)":                   "(a or b) and (c or d)",
		"a or(b or c)":                          "a or (b or c)",
		"(a or b)or c":                          "a or b or c",
		"(a==b)and(c<d)":                        "a == b and c < d",
		"a->(b->c)":                             "a -> b -> c",
		"(a->b)->c":                             "(a -> b) -> c",
		"(a fby b)->(c fby d)":                  "(a fby b) -> c fby d",
		"(a or b)->(c or d)":                    "a or b -> c or d",
		"(a->b)or c":                            "(a -> b) or c",
		"pre(a->b)":                             "pre (a -> b)",
		"a->(if b then c else d)":               "a -> if b then c else d",
		"(if b then c else d)->a":               "(if b then c else d) -> a",
		"if a then b else(c->d)":                "if a then b else c -> d",
		"if(a->b)then(c->d)else(e->f)":          "if a -> b then c -> d else e -> f",
		"if(if a then b else c)then d else e":   "if if a then b else c then d else e",
		"a+(if b then c else d)":                "a + (if b then c else d)",
		"-(if b then c else d)":                 "-(if b then c else d)",
		"f((a->b),(if c then d else e),-(f()))": "f(a -> b, if c then d else e, -f())",
	})
}

// Of each kind inside each other one brackets stand just where the text would be read as another one without.
func TestBracketsAreNeeded(t *testing.T) { // P6.1, P6.3
	shapes := []api.Expr{fix(api.One), truth(1), name("a"), is("M", "A"), calling("f", 0), {Kind: api.ExIf, A: 0, B: 0, C: 0}}
	for kind := api.ExNeg; kind <= api.ExSqrt; kind++ {
		switch {
		case kind == api.ExNeg || kind == api.ExNot || kind == api.ExPre || kind == api.ExSqrt:
			shapes = append(shapes, one(kind, 0))
		case kind != api.ExIf && kind != api.ExCall && kind != api.ExIs:
			shapes = append(shapes, two(kind, 0, 0))
		}
	}
	with, without := 0, 0
	for _, outer := range shapes {
		for _, inner := range shapes {
			for place := range ast.Parts(outer) {
				x := outer
				abc := []*int{&x.A, &x.B, &x.C}
				if x.Kind == api.ExCall {
					x.Args = []int{1}
				} else {
					*abc[place] = 1
				}
				p := program(nil, name("a"), inner, x)
				got, text := Expr(p, 2), Expr(p, 1)
				bare := strings.Replace(got, "("+text+")", text, 1)
				if x.Kind == api.ExCall {
					bare = got
				}
				q, e, fault := parse.Expr(got)
				if fault.Code != api.OK || !ast.Same(p, 2, q, e) {
					t.Errorf("%q is read as another one: %v", got, fault)
				}
				if bare == got {
					without++
					continue
				}
				with++
				if q, e, fault := parse.Expr(bare); fault.Code == api.OK && ast.Same(p, 2, q, e) {
					t.Errorf("%q is read as %q, too", bare, got)
				}
			}
		}
	}
	if with < 100 || without < 100 {
		t.Errorf("%d with brackets, %d without", with, without)
	}
}

func TestForm(t *testing.T) { // P6.1, P6.2
	checkForm(t, "", "")
	checkForm(t, " # nothing\n\t", "")
	checkForm(t, "fun f():fix=1;", "fun f(): fix = 1;\n")
	checkForm(t, "fun f(a:fix,b:bool):bool=(b);fun g(a:fix):fix=f(a,true)->2;", "fun f(a: fix, b: bool): bool = b;\nfun g(a: fix): fix = f(a, true) -> 2;\n")
	checkForm(t, "node f(a:bool):bool{return a;}", "node f(a: bool): bool {\n  return a;\n}\n")
	checkForm(t, "node f():fix{let a:fix=0 fby a+1;let b:bool=true;return a;}", "node f(): fix {\n  let a: fix = 0 fby a + 1;\n  let b: bool = true;\n  return a;\n}\n")
	checkForm(t, "hybrid m(){}", "hybrid m() {\n}\n")
	checkForm(t, "hybrid m(u:fix,v:bool){let a:bool=v;der x=1 init 2;reset x on 3=4;mem k:bool init false;on 6 set k=true;mode M{A};mode N{A,B,C};from N.A on 8 goto B;out x;}",
		"hybrid m(u: fix, v: bool) {\n  let a: bool = v;\n  der x = 1 init 2;\n  reset x on 3 = 4;\n  mem k: bool init false;\n  on 6 set k = true;\n"+
			"  mode M {A};\n  mode N {A, B, C};\n  from N.A on 8 goto B;\n  out x;\n}\n")
	// What stands in an item is wanted to bind as tight as nothing.
	checkForm(t, "hybrid m(){der x=(a->b)init(c->d);reset x on(a->b)=(if a then b else c);on(a->b)set k=(c->d);from M.A on(a fby b)goto B;mem k:fix init(a->b);}",
		"hybrid m() {\n  der x = a -> b init c -> d;\n  reset x on a -> b = if a then b else c;\n  on a -> b set k = c -> d;\n  from M.A on a fby b goto B;\n  mem k: fix init a -> b;\n}\n")
	checkForm(t, "fun f():fix=0.1;", "fun f(): fix = 0.09999999986030161380767822265625;\n")
	checkForm(t, "fun f():fix=0.50;", "fun f(): fix = 0.5;\n")
}

func TestFormOfNone(t *testing.T) { // P6.2
	for s, want := range map[string]api.Fault{
		"fun":                              {Code: api.ErrSyntax, At: 3},
		"fun f(): fix = 1":                 {Code: api.ErrSyntax, At: 16},
		"fun f(): fix = 1; x":              {Code: api.ErrSyntax, At: 18},
		"fun f(): fix = 1; @":              {Code: api.ErrLex, At: 18},
		"fun f(): fix = 007;":              {Code: api.ErrLex, At: 15},
		"@":                                {Code: api.ErrLex},
		strings.Repeat(" ", api.MaxText+1): {Code: api.ErrRoom},
		"fun f(): fix = " + strings.Repeat("-", 29) + "x;": {Code: api.ErrDepth, At: 15 + 29},
		"fun f(): fix = " + strings.Repeat("(", 15) + ")":  {Code: api.ErrDepth, At: 15 + 15},
		"hybrid m() { out x; } hybrid n() { out 1; }":      {Code: api.ErrSyntax, At: 39},
	} {
		if got, fault := Form(s); got != "" || fault != want {
			t.Errorf("Form(%.30q): %q, %v, wanted %v", s, got, fault, want)
		}
	}
}

// A form may have more bytes than a text that is read.
func TestLongForm(t *testing.T) { // P6.2
	const one, shown = "fun f():fix=0.1;", "fun f(): fix = 0.09999999986030161380767822265625;\n"
	n := api.MaxText / len(one)
	if got, fault := Form(strings.Repeat(one, n)); got != strings.Repeat(shown, n) || fault != (api.Fault{}) {
		t.Errorf("%d bytes, %v", len(got), fault)
	}
}

// Texts as deep as can be are not deeper once they are written.
func TestDeepForm(t *testing.T) { // P6.2, P6.3
	for _, c := range [][2]string{
		{strings.Repeat("-", 28) + "x", strings.Repeat("-", 28) + "x"},
		{strings.Repeat("(", 14) + "x" + strings.Repeat(")", 14), "x"},
		{strings.Repeat("(x - ", 14) + "x" + strings.Repeat(")", 14), "x - " + strings.Repeat("(x - ", 13) + "x" + strings.Repeat(")", 13)},
		{strings.Repeat("not(a and ", 9) + "b" + strings.Repeat(")", 9), strings.Repeat("not (a and ", 9) + "b" + strings.Repeat(")", 9)},
		{strings.Repeat("a -> ", 28) + "b", strings.Repeat("a -> ", 28) + "b"},
		{strings.Repeat("if a then b else ", 28) + "c", strings.Repeat("if a then b else ", 28) + "c"},
		{strings.Repeat("f(", 15) + strings.Repeat(")", 15), strings.Repeat("f(", 15) + strings.Repeat(")", 15)},
		{strings.Repeat("f(", 14) + "x" + strings.Repeat(")", 14), strings.Repeat("f(", 14) + "x" + strings.Repeat(")", 14)},
	} {
		got, fault := Form("fun f(): fix = " + c[0] + ";")
		want := "fun f(): fix = " + c[1] + ";\n"
		if got != want || fault != (api.Fault{}) {
			t.Errorf("%q: %q, %v", c[0], got, fault)
		}
		if again, fault := Form(got); again != want || fault != (api.Fault{}) {
			t.Errorf("%q again: %q, %v", c[0], again, fault)
		}
	}
}

func TestOfNone(t *testing.T) { // P6.1
	right := program([]api.Decl{{Kind: api.DeFun, Name: "f", Type: api.TypeFix, E: 1}}, name("x"), one(api.ExNeg, 0))
	for e, want := range map[int]string{0: "x", 1: "-x", 2: "", -1: "", math.MaxInt: "", math.MinInt: ""} {
		if got := Expr(right, e); got != want {
			t.Errorf("Expr of %d: %q", e, got)
		}
	}
	if got := Program(right); got != "fun f(): fix = -x;\n" {
		t.Errorf("Program: %q", got)
	}
	for what, turn := range map[string]func(p *api.Program){
		"a kind that there isn't":   func(p *api.Program) { p.Exprs[1].Kind = 22 },
		"a kind 0":                  func(p *api.Program) { p.Exprs[1].Kind = 0 },
		"a part of its own":         func(p *api.Program) { p.Exprs[1].A = 1 },
		"a part that isn't there":   func(p *api.Program) { p.Exprs[1].A = -1 },
		"a name that is empty":      func(p *api.Program) { p.Exprs[0].Name = "" },
		"a number below 0":          func(p *api.Program) { p.Exprs[0] = fix(-1) },
		"a truth of 2":              func(p *api.Program) { p.Exprs[0] = truth(2) },
		"a part too many":           func(p *api.Program) { p.Exprs[1].B = 1 },
		"a state too many":          func(p *api.Program) { p.Exprs[0].State = "S" },
		"another one that may not":  func(p *api.Program) { p.Exprs = append(p.Exprs, api.Expr{}) },
		"an E that isn't there":     func(p *api.Program) { p.Decls[0].E = 2 },
		"an E below":                func(p *api.Program) { p.Decls[0].E = -1 },
		"an E that it hasn't":       func(p *api.Program) { p.Decls[0].Kind = api.DeHybrid },
		"an item's F that it lacks": func(p *api.Program) { p.Decls[0].Items = []api.Item{{Kind: api.ItOut, F: 1}} },
	} {
		p := program(slices.Clone(right.Decls), slices.Clone(right.Exprs)...)
		turn(&p)
		if Expr(p, 0) != "" || Expr(p, 1) != "" || Program(p) != "" {
			t.Errorf("%s: %q, %q, %q", what, Expr(p, 0), Expr(p, 1), Program(p))
		}
	}
	if Expr(api.Program{}, 0) != "" || Program(api.Program{}) != "" || Program(program(nil, name("x"))) != "" {
		t.Error("of nothing")
	}
}

// What is in no text, but in a program that may be.
func TestStrangePrograms(t *testing.T) { // P6.1
	items := []api.Item{
		{Kind: api.ItDer, Name: "x", E: 1, F: 2}, {Kind: api.ItReset, Name: "", E: 1, F: 2}, {Kind: api.ItOn, Name: "k", E: 1, F: 2},
		{Kind: api.ItLet, Name: "let", Type: 7, E: 2}, {Kind: api.ItMem, Name: "a b", E: 1},
		{Kind: api.ItMode, Name: "M"}, {Kind: api.ItMode, Name: "M", States: []string{"", "A"}}, {Kind: api.ItFrom, F: 3},
		{Kind: api.ItOut, Name: "\xff\n"}, {Kind: 9, Name: "none"}, {Kind: 0, Name: "none"}, {Kind: -1},
	}
	shown := "  der x = 2 init b;\n  reset  on b = 2;\n  on b set k = 2;\n  let let: ? = b;\n  mem a b: ? init 2;\n  mode M {};\n  mode M {, A};\n" +
		"  from . on 2 * b goto ;\n  out \xff\n;\n"
	p := program([]api.Decl{
		{Kind: api.DeFun, Name: "f", Params: []api.Param{{Name: "a"}, {Name: "b", Type: 3}, {Type: api.TypeBool}}, Type: -1, E: 3, Items: items},
		{Kind: api.DeNode, Name: "n", Params: []api.Param{}, Type: 3, E: 1, Items: items},
		{Kind: api.DeHybrid, Params: []api.Param{{Name: "u", Type: 9}}, Type: 1, Items: items},
		{Kind: 0, Name: "none", Items: items}, {Kind: 4, Name: "none"}, {Kind: -1, Name: "none"},
		{Kind: api.DeHybrid, Name: "e", Items: []api.Item{}},
	}, name("a"), fix(2*api.One), name("b"), two(api.ExMul, 1, 2))
	want := "fun f(a: ?, b: ?, : bool): ? = 2 * b;\nnode n(): ? {\n" + shown + "  return 2;\n}\nhybrid (u: ?) {\n" + shown + "}\nhybrid e() {\n}\n"
	if got := Program(p); got != want {
		t.Errorf("Program: %q, wanted %q", got, want)
	}
	checkExpr(t, "a b + (c\xff, d -> if)", name("c\xff, d"), name("if"), two(api.ExArrow, 0, 1), name("a b"), two(api.ExAdd, 3, 2))
}

// Programs drawn have the model's texts; what is read of these, with other gaps and with more brackets, is the same.
func TestAsModel(t *testing.T) { // P6.1, P6.2, P6.3
	d := &drawer{state: 3}
	gaps := []string{" ", " ", "\n", "\t  ", " # (x\n", "\r\n"}
	bytes, deep := 0, 0
	for range 3000 {
		p := d.program(1 + d.below(3))
		want := model{p, never}.program()
		got := Program(p)
		if got != want {
			t.Fatalf("Program: %q, wanted %q", got, want)
		}
		bytes += len(got)
		q, fault := parse.Parse(got)
		if fault.Code != api.OK || !ast.SameAll(p, q) {
			t.Fatalf("%q is read as another one: %v", got, fault)
		}
		if Program(q) != got {
			t.Fatalf("%q is written as %q", got, Program(q))
		}
		loose := model{p, func() bool { return d.below(8) == 0 }}.program()
		tokens, _ := lex.Lex(loose)
		var b strings.Builder
		for _, token := range tokens {
			b.WriteString(gaps[d.below(len(gaps))] + token.Text)
		}
		form, fault := Form(b.String())
		if fault.Code == api.ErrDepth || fault.Code == api.ErrRoom {
			deep++
			continue
		}
		if form != got || fault != (api.Fault{}) {
			t.Fatalf("Form(%q): %q, %v", b.String(), form, fault)
		}
		for e := range p.Exprs {
			if got, want := Expr(p, e), (model{p, never}).expr(e, 0); got != want {
				t.Fatalf("Expr: %q, wanted %q", got, want)
			}
		}
	}
	if bytes < 300_000 || deep > 300 {
		t.Errorf("%d bytes were written, %d texts couldn't be read", bytes, deep)
	}
}

// Parts that are met more than once are written each time.
func TestSharedParts(t *testing.T) { // P6.1
	l := []api.Expr{name("x")}
	want := "x"
	for i := range 12 {
		l = append(l, two(api.ExAdd, i, i))
		if i == 0 {
			want = "x + x"
		} else {
			want += " + (" + want + ")"
		}
	}
	checkExpr(t, want, l...)
}

// Trees too deep for nested calls have their texts, too.
func TestGreatTrees(t *testing.T) { // P6.1, rule 1
	const deep = 200_000
	defer debug.SetMaxStack(debug.SetMaxStack(4 << 20))
	times := func(s string, n int) string { return strings.Repeat(s, n) }
	for want, next := range map[string]func(i int) api.Expr{
		times("-", deep) + "x":                                    func(i int) api.Expr { return one(api.ExNeg, i) },
		"x" + times(" - x", deep):                                 func(i int) api.Expr { return two(api.ExSub, i, 0) },
		times("x - (", deep-1) + "x - x" + times(")", deep-1):     func(i int) api.Expr { return two(api.ExSub, 0, i) },
		times("x fby ", deep) + "x":                               func(i int) api.Expr { return two(api.ExFby, 0, i) },
		times("(", deep-1) + "x fby x" + times(") fby x", deep-1): func(i int) api.Expr { return two(api.ExFby, i, 0) },
		times("f(", deep) + "x" + times(")", deep):                func(i int) api.Expr { return calling("f", i) },
		times("if ", deep) + "x" + times(" then x else x", deep):  func(i int) api.Expr { return api.Expr{Kind: api.ExIf, A: i} },
	} {
		l := []api.Expr{name("x")}
		for i := range deep {
			l = append(l, next(i))
		}
		p := program([]api.Decl{{Kind: api.DeFun, Name: "f", Type: api.TypeFix, E: deep}}, l...)
		if got := Expr(p, deep); got != want {
			t.Errorf("Expr: %.40q, wanted %.40q", got, want)
		}
		if got := Program(p); got != "fun f(): fix = "+want+";\n" {
			t.Errorf("Program: %.40q, wanted %.40q", got, want)
		}
	}
	args := make([]int, deep)
	checkExpr(t, "f("+times("x, ", deep-1)+"x)", name("x"), calling("f", args...))
}

// What has no expression needs none.
func TestWithoutExpressions(t *testing.T) { // P6.1
	items := []api.Item{{Kind: api.ItOut, Name: "x"}, {Kind: api.ItMode, Name: "M", States: []string{"A"}}}
	p := program([]api.Decl{{Kind: api.DeHybrid, Name: "m", Items: items}})
	if got := Program(p); got != "hybrid m() {\n  out x;\n  mode M {A};\n}\n" {
		t.Errorf("Program: %q", got)
	}
}

// Nothing that is handed in is changed, or shared with an answer.
func TestMemory(t *testing.T) { // rule 5
	bytes := []byte("abc")
	shared := unsafe.String(unsafe.SliceData(bytes), len(bytes))
	args, states := []int{0, 0, 77}, []string{"A", "B", "spare"}
	p := program([]api.Decl{{Kind: api.DeHybrid, Name: "m", Items: []api.Item{{Kind: api.ItMode, Name: shared, States: states[:2]}, {Kind: api.ItLet, Name: "y", Type: 1, E: 1}}}},
		name(shared), calling("f", args[:2]...))
	text, whole, alone := Expr(p, 1), Program(p), Expr(p, 0)
	want := program([]api.Decl{{Kind: api.DeHybrid, Name: "m", Items: []api.Item{{Kind: api.ItMode, Name: "abc", States: []string{"A", "B"}}, {Kind: api.ItLet, Name: "y", Type: 1, E: 1}}}},
		name("abc"), calling("f", 0, 0))
	if !reflect.DeepEqual(p, want) || args[2] != 77 || states[2] != "spare" {
		t.Error("what was handed in is changed")
	}
	clear(bytes)
	if text != "f(abc, abc)" || alone != "abc" || whole != "hybrid m() {\n  mode abc {A, B};\n  let y: fix = f(abc, abc);\n}\n" {
		t.Errorf("an answer shares what was handed in: %q, %q, %q", text, alone, whole)
	}
	source := []byte("fun f(): fix = x;\n")
	form, _ := Form(unsafe.String(unsafe.SliceData(source), len(source)))
	clear(source)
	if form != "fun f(): fix = x;\n" {
		t.Errorf("Form shares what was handed in: %q", form)
	}
}
