package check

import (
	"math"
	"reflect"
	"runtime/debug"
	"slices"
	"strconv"
	"strings"
	"testing"
	"unsafe"

	"astrolabe/api"
	"astrolabe/ast"
	"astrolabe/names"
	"astrolabe/parse"
	"astrolabe/show"
)

// wordOf are the codes' words, as the chapter lists them.
func wordOf(code api.Errno) string {
	l := strings.Fields("lexical syntax depth name type kind recursion causality initialization capacity form")
	if code < 1 || int(code) > len(l) {
		return "other"
	}
	return l[code-1]
}

// faultsAt are faults of a code at these places.
func faultsAt(code api.Errno, places ...int) []api.Fault {
	var l []api.Fault
	for _, at := range places {
		l = append(l, api.Fault{Code: code, At: at})
	}
	return l
}

// checkText asks for all that there is of a text that has these faults.
func checkText(t *testing.T, s string, want ...api.Fault) {
	t.Helper()
	for range 2 {
		if got := Faults(s); !slices.Equal(got, want) {
			t.Errorf("%q: %v, wanted %v", s, got, want)
		}
		checkFirst(t, s, want)
	}
	if p, fault := parse.Parse(s); fault.Code == api.OK {
		checkProgram(t, s, p, want...)
	}
}

// checkFirst asks for a text's program, and its fault.
func checkFirst(t *testing.T, s string, want []api.Fault) {
	t.Helper()
	p, fault := Text(s)
	if len(want) == 0 {
		parsed, _ := parse.Parse(s)
		if fault != (api.Fault{}) || !reflect.DeepEqual(p, parsed) || Say(s, fault) != "fine" {
			t.Errorf("%q: %v, %s", s, fault, Say(s, fault))
		}
		return
	}
	ahead := s[:want[0].At]
	line := strings.Count(ahead, "\n") + 1
	column := len(ahead[strings.LastIndex(ahead, "\n")+1:]) + 1
	said := strconv.Itoa(line) + ":" + strconv.Itoa(column) + ": " + wordOf(want[0].Code)
	if fault != want[0] || len(p.Decls)+len(p.Exprs) > 0 || Say(s, fault) != said {
		t.Errorf("%q: %v, %s, wanted %v; %v", s, fault, Say(s, fault), want[0], p)
	}
}

func checkProgram(t *testing.T, what string, p api.Program, want ...api.Fault) {
	t.Helper()
	if got := Program(p); !slices.Equal(got, want) {
		t.Errorf("%s: %v, wanted %v", what, got, want)
	}
}

// marks are a text, and the places where it had a mark !, which are taken out.
func marks(marked string) (string, []int) {
	pieces := strings.Split(marked, "!")
	s, places := pieces[0], []int(nil)
	for _, piece := range pieces[1:] {
		places = append(places, len(s))
		s += piece
	}
	return s, places
}

// checkMarked asks for the faults of a text, each of that code, and behind a mark.
func checkMarked(t *testing.T, code api.Errno, marked ...string) {
	t.Helper()
	for _, m := range marked {
		s, places := marks(m)
		if len(places) == 0 {
			t.Errorf("%q has no mark", m)
		}
		checkText(t, s, faultsAt(code, places...)...)
	}
}

// nested is a text with brackets so many times.
func nested(count int) string {
	return strings.Repeat("(", count) + "1" + strings.Repeat(")", count)
}

// The programs of the corpus, and others that have no fault.
const (
	ball  = "hybrid ball(g: fix) {\n  der y = v init 10;\n  der v = -g init 0;\n  mem n: fix init 0;\n  reset v on -y = -0.5 * v;\n  reset y on -y = 0;\n  on -y set n = n + 1;\n  out y;\n  out v;\n  out n;\n}\n"
	heat  = "hybrid heat(outer: fix) {\n  der t = if M is On then 2 - (t - outer) / 10 else (outer - t) / 10 init 18;\n  mode M {On, Off};\n  from M.On on t - 21 goto Off;\n  from M.Off on 19 - t goto On;\n  let on1: bool = M is On;\n  out t;\n  out on1;\n}\n"
	tick  = "node count(a: fix): fix {\n  let n: fix = 0 fby n + a;\n  return n + a;\n}\nhybrid tick(speed: fix) {\n  der x = speed init 0;\n  mem n: fix init 0;\n  mem odd: bool init false;\n  on x - 1 set n = count(1);\n  on x - 1 set odd = true -> not pre odd;\n  reset x on x - 1 = x - 1;\n  out x;\n  out n;\n  out odd;\n}\n"
	tank  = "fun low(h: fix): fix = 1 - h;\nhybrid tank(inflow: fix, leak: fix) {\n  der a = (if M is A then inflow else 0) - leak init 2;\n  der b = (if M is B then inflow else 0) - leak init 2;\n  mode M {A, B};\n  mem swaps: fix init 0;\n  from M.A on low(b) goto B;\n  from M.B on low(a) goto A;\n  on low(a) set swaps = swaps + 1;\n  on low(b) set swaps = swaps + 1;\n  out a;\n  out b;\n  out swaps;\n}\n"
	wave  = "hybrid wave() {\n  der x = v init 0;\n  der v = -x init 1;\n  mem ups: fix init 0;\n  on x set ups = ups + 1;\n  let energy: fix = x * x + v * v;\n  out x;\n  out ups;\n  out energy;\n}\n"
	relay = "hybrid relay(signal: fix, wait: fix) {\n  der t = if M is Wait then 1 else 0 init 0;\n  mode M {Off, Wait, On};\n  mem changes: fix init 0;\n  from M.Off on signal goto Wait;\n  from M.Wait on t - wait goto On;\n  from M.On on -signal goto Off;\n  reset t on signal = 0;\n  on t - wait set changes = changes + 1;\n  let closed: bool = M is On;\n  out closed;\n  out changes;\n}\n"
)

func fineTexts() []string {
	return []string{
		ball, heat, tick, tank, wave, relay,
		"hybrid m() { }", "hybrid m(){}#", "# m\n\thybrid m ( ) { }\r\n", "hybrid m() { der x = 1 init 0; out x; }", "hybrid m() { mem k: fix init 3; out k; }", "hybrid m() { der x = 1 / 0 init 0; out x; }",
		"hybrid m() { der x = 1 init 0; reset x on x - 1 = 0; out x; }", "hybrid m(u: fix, v: bool) { let a: fix = if v then u else b; let b: fix = (-(u)); }",
		"hybrid m() { mem k: fix init " + nested(14) + "; }", "hybrid m() { mem k: fix init " + strings.Repeat("-", 28) + "1; }", "hybrid m() { let a: bool = " + strings.Repeat("not ", 26) + "(true); }",
		"fun f(a: fix): fix = a; node g(a: fix): fix { let b: fix = a -> pre b; return f(b); } hybrid m() { mem k: fix init f(2); on f(k) set k = g(k); } fun h(): bool = f(1) < 2;",
		"hybrid m() { }" + strings.Repeat(" ", 20000-14),
	}
}

// What has no fault is its program.
func TestFine(t *testing.T) { // P13.1, P13.2
	for _, s := range fineTexts() {
		checkText(t, s)
	}
}

// Texts that are no programs have the fault of layer 5, one alone.
func TestNoProgram(t *testing.T) { // P13.1, P13.2
	checkMarked(t, api.ErrLex, "!@", "hybrid m() { } !\xff", "hybrid m() {\n  let x: fix = !@;\n}", "hybrid m() { let !abcdefghijklmnopq: fix = 1; }", "hybrid m() { mem k: fix init !2147483648; }", "hybrid m() { out !\x00; }", "hybrid hybrid\n\n !@ @", "\n\n!$")
	checkMarked(t, api.ErrSyntax, "!x", "hybrid m() { }!;", "hybrid m() {!", "hybrid !hybrid() { }", "hybrid m() { let x != 1; }", "hybrid m() {\n  let x != 1;\n}", "hybrid m() { der x = 1 !; }", "hybrid m() { let a: fix = a !a; let b: bool = 1; }", "node n(): fix { return 1; !let a: fix = 1; } hybrid m() { }", "fun f() != 1;\n\n", "fun f(): fix = 1;\n\n!1")
	checkMarked(t, api.ErrDepth, "fun f(): fix = "+nested(14)+" + "+strings.Repeat("(", 15)+"!"+nested(3), "hybrid m() { mem k: fix init "+strings.Repeat("-", 29)+"!-1; } hybrid", "hybrid m() { mem k: fix init "+strings.Repeat("-", 29)+"!1; } hybrid", "hybrid m() { mem k: fix init "+strings.Repeat("(", 15)+"!1")
	checkMarked(t, api.ErrRoom, "!hybrid m() { }"+strings.Repeat(" ", 20001-14), "!"+strings.Repeat("@", 20001), "!"+strings.Repeat("\n", 50000))
}

// What is one layer's alone, all of it, with the first one told.
func TestFaulty(t *testing.T) { // P13.1, P13.2
	checkMarked(t, api.ErrName, "!", "!fun f(): fix = 1;", "hybrid m() { !out x; }", "hybrid m() {\n  !out x;\n}", "hybrid m() { out x; let x: fix = !y; !let x: bool = !z; }", "hybrid m() { } !hybrid m() { } !hybrid o() { !out x; }", "hybrid m() { mem k: fix init !m(); on !f(1) set k = !g(); } fun f(): fix = 1; node g(a: fix): fix { return !x; }", "!# no more\n", "!hybrid m(a: fix, a: fix) { }", "hybrid m() { mode M {A}; !from M.A on !M goto B; let b: bool = !M is B; }")
	checkMarked(t, api.ErrType, "hybrid m() { let a: bool = !1; }", "hybrid m() {\n  let a: bool = !1;\n  let b: fix = !true;\n}", "hybrid m() { let a: bool = !1 and !2; let b: fix = -!true !< 1; }", "fun f(a: bool): fix = !a; hybrid m() { let x: fix = f(!1) + f(2 !+ 3); mem k: bool init !1; on !true set k = !0; }")
	checkMarked(t, api.ErrKind, "hybrid m() { let y: fix = !pre 1; }", "hybrid m() {\n\n  der x = !pre x init !x; }", "hybrid m() { der x = 1 !-> 2 init 1 !fby 2; } fun f(): fix = !g(); node g(): fix { return 1; }")
	checkMarked(t, api.ErrRecurse, "fun f(): fix = !f();\nhybrid m() { }", "hybrid m() { } fun f(a: fix): fix = a + !g(!f(1)); fun g(a: fix): fix = !f(a); fun h(): fix = f(1);", "node g(): fix { let a: fix = 0 -> !g(); return pre !g(); }\nhybrid m() { }")
	checkMarked(t, api.ErrCause, "hybrid m() { !let a: fix = a; }", "hybrid m(u: fix) { !let a: fix = a; }", "hybrid m() { }\nnode n(): fix { !let a: fix = b;\n  !let b: fix = a; let c: fix = a; return c; }", "hybrid m() { !let a: fix = b; !let b: fix = c + a; !let c: fix = c; }")
	checkMarked(t, api.ErrInit, "hybrid m() { mem k: fix init 0; on 1 set k = !pre 1; }", "node n(): fix { return !pre 1; }\nhybrid m() { }", "node n(a: fix): fix {\n  let b: fix = pre a;\n  return f(!b) !+ b;\n}\nhybrid m() { mem k: fix init 0; on 1 set k = 0 fby !pre !pre k; } fun f(a: fix): fix = a;")
}

// faulty are declarations that have faults of one layer alone, all of them marked. They may stand beside each other.
func faulty() []struct {
	code api.Errno
	text string
} {
	return []struct {
		code api.Errno
		text string
	}{
		{api.ErrName, "fun n0(): fix = !nobody + !nobody2;"},
		{api.ErrType, "fun t0(): fix = !true + !false;"},
		{api.ErrKind, "fun k0(): fix = !pre 1 + !pre 2;"},
		{api.ErrRecurse, "fun c0(): fix = !c0() + !c0();"},
		{api.ErrCause, "node h0(): fix { !let a: fix = a; let c: fix = a; !let b: fix = b; return 1; }"},
		{api.ErrInit, "node i0(): fix { return !pre !pre 1; }"},
		{api.ErrRoom, "!hybrid m() { let a: fix = r4() * r4(); }"},
	}
}

// roomy are funs: the last one of them, r4, is 2,029, since each is 5 times as much as the one ahead of it, and 9.
func roomy() string {
	s := "fun r0(): fix = 1; "
	for i := range 4 {
		call := "r" + strconv.Itoa(i) + "()"
		s += "fun r" + strconv.Itoa(i+1) + "(): fix = " + call + " + " + call + " + " + call + " + " + call + " + " + call + "; "
	}
	return s
}

// Of faults of several layers those of the first one are told, all of them and no others, wherever they stand.
func TestOrder(t *testing.T) { // P13.1, P13.2
	l := faulty()
	for set := range 1 << len(l) {
		var ahead, behind string
		code := api.Errno(0)
		for i, f := range l {
			text := f.text
			if set&(1<<i) == 0 {
				if f.code == api.ErrRoom {
					text = "hybrid m() { let a: fix = r4() + r0(); }"
				} else {
					continue
				}
			} else if code == api.OK {
				code = f.code
			} else {
				text = strings.ReplaceAll(text, "!", "")
			}
			ahead, behind = ahead+text+"\n", text+"\n"+behind
		}
		for _, s := range []string{ahead + roomy(), roomy() + behind} {
			s, places := marks(s)
			checkText(t, s, faultsAt(code, places...)...)
		}
	}
}

// What is no program has layer 5's fault alone, whatever else it would have.
func TestOrderOfText(t *testing.T) { // P13.1
	var rest string
	for _, f := range faulty() {
		rest += strings.ReplaceAll(f.text, "!", "") + "\n"
	}
	deep := "fun d0(): fix = " + strings.Repeat("(", 15) + "!1;"
	flat := strings.ReplaceAll(deep, "!", "")
	checkMarked(t, api.ErrLex, rest+"!@", "!@"+rest, rest+"fun !2147483649", flat+"!@", rest+"fun fun;"+rest+"!@@", "fun ; !?")
	checkMarked(t, api.ErrSyntax, rest+"!1", "!1"+rest, rest+"fun !;"+flat, "!;"+flat, rest+"fun f(): fix = 1 !1;"+deep[:10])
	checkMarked(t, api.ErrDepth, rest+deep, deep+rest, deep+"fun ;", rest+deep+"1 1;")
	checkMarked(t, api.ErrRoom, "!"+rest+deep[:10]+"@"+strings.Repeat(" ", 20000))
	for i := range 2 { // a text's fault that isn't layer 5's isn't told beside it
		s := strings.Repeat(rest, i+1)
		if l := Faults(s); len(l) == 0 || l[0].Code != api.ErrName {
			t.Errorf("%v", l)
		}
	}
}

// sums is a hybrid that is so much: lets of sums of ones, each of at most 1,999.
func sums(size int) string {
	s := "hybrid m() {"
	for i := 0; size > 0; i++ {
		part := min(size, 1999)
		if part%2 == 0 {
			part-- // a sum has one sign less than ones
		}
		s += " let a" + strconv.Itoa(i) + ": fix = 1" + strings.Repeat("+1", part/2) + ";"
		size -= part
	}
	return s + " }"
}

// A hybrid is too much just if its Size is more than 4,000; others may be more.
func TestRoom(t *testing.T) { // P13.1, P13.2
	const limit = 4000
	for size := range 4 {
		checkText(t, sums(size))
	}
	for _, size := range []int{limit - 1, limit} {
		checkText(t, sums(size))
	}
	for _, size := range []int{limit + 1, limit + 2, limit + 1999, 8000} {
		checkText(t, sums(size), api.Fault{Code: api.ErrRoom})
		checkText(t, "fun f(): fix = 1;\n "+sums(size), api.Fault{Code: api.ErrRoom, At: 19})
	}
	// The hybrid's own, where it stands: not the first declaration's, nor the greatest's, called or not.
	checkMarked(t, api.ErrRoom, roomy()+"fun f(): fix = 1;\n\n  !hybrid m() { let a: fix = r4() + r4(); } node n(): fix { return 1; }", "!hybrid m() { mem k: fix init 0; on 1 set k = r4() + r4(); } "+roomy(), "!hybrid m() { der x = 0 init r4() + r4(); } "+roomy())
	checkText(t, roomy()+"hybrid m() { let a: fix = r4(); } node n(): fix { return r4() + r4(); } fun f(): fix = r4() + r4() + r4();")
	// A call of r4 is 2,030.
	for _, rest := range []int{limit - 2030, limit - 2029} {
		s := roomy() + strings.Replace(sums(rest), "{", "{ let b: fix = r4();", 1)
		var want []api.Fault
		if rest > limit-2030 {
			want = faultsAt(api.ErrRoom, len(roomy()))
		}
		checkText(t, s, want...)
	}
	// Held sizes are too much, too.
	s := roomy()
	for i := 4; i < 12; i++ {
		called := "r" + strconv.Itoa(i) + "()"
		s += "fun r" + strconv.Itoa(i+1) + "(): fix = " + called + strings.Repeat(" + "+called, 9) + "; "
	}
	checkMarked(t, api.ErrRoom, s+"!hybrid m() { der x = r12() init 0; }")
	checkText(t, s+"hybrid m() { let r12: fix = 1; }")
}

// Of a program that may not be by layer 7 there is one fault, at 0, whatever else it has.
func TestNotBe(t *testing.T) { // P13.2
	right := func() api.Program {
		p, _ := parse.Parse("fun f(a: fix): fix = -a; node g(a: fix): fix { let b: fix = 0 -> pre a; return b; } hybrid m() { let y: fix = f(1); der x = y init 0; mode M {A}; from M.A on x goto A; }")
		return p
	}
	checkProgram(t, "right", right())
	for what, turn := range map[string]func(p *api.Program){
		"a decl of no kind":        func(p *api.Program) { p.Decls = append(p.Decls, api.Decl{At: 5}) },
		"a decl of kind 4":         func(p *api.Program) { p.Decls[0].Kind = 4 },
		"a decl of a kind below":   func(p *api.Program) { p.Decls[2].Kind = -1 },
		"an item of no kind":       func(p *api.Program) { p.Decls[1].Items[0].Kind = 0 },
		"an item of kind 9":        func(p *api.Program) { p.Decls[2].Items[3].Kind = 9 },
		"an expression of no kind": func(p *api.Program) { p.Exprs = append(p.Exprs, api.Expr{At: 7}) },
		"an expression of kind 22": func(p *api.Program) { p.Exprs[0].Kind = 22 },
		"a part of its own":        func(p *api.Program) { p.Exprs[1].A = 1 },
		"a part behind":            func(p *api.Program) { p.Exprs[1].A = 2 },
		"a part below":             func(p *api.Program) { p.Exprs[1].A = -1 },
		"an argument that isn't":   func(p *api.Program) { p.Exprs[8].Args = []int{99} },
		"an E that isn't there":    func(p *api.Program) { p.Decls[0].E = len(p.Exprs) },
		"an F that isn't there":    func(p *api.Program) { p.Decls[2].Items[1].F = -1 },
		"a hybrid's E":             func(p *api.Program) { p.Decls[2].E = 1 },
		"a let's F":                func(p *api.Program) { p.Decls[1].Items[0].F = 1 },
		"a number below 0":         func(p *api.Program) { p.Exprs = append(p.Exprs, api.Expr{Kind: api.ExFix, V: -1}) },
		"a bool of 2":              func(p *api.Program) { p.Exprs = append(p.Exprs, api.Expr{Kind: api.ExBool, V: 2}) },
		"a name that is empty":     func(p *api.Program) { p.Exprs[0].Name = "" },
		"a state of a name":        func(p *api.Program) { p.Exprs[0].State = "A" },
		"a B that isn't":           func(p *api.Program) { p.Exprs[1].B = 1 },
		"no hybrid, and no kind":   func(p *api.Program) { p.Decls = []api.Decl{{Kind: 9, At: 3}} },
		"faults, and no kind":      func(p *api.Program) { p.Exprs[0].Name = "z"; p.Decls[2].Items[0].Kind = 99 },
		"an expression of nobody":  func(p *api.Program) { *p = api.Program{Exprs: []api.Expr{{Kind: 50, At: 9}}} },
	} {
		p := right()
		turn(&p)
		if names.Right(p) || len(names.Faults(p)) > 0 {
			t.Errorf("%s: it may be: %v", what, names.Faults(p))
		}
		checkProgram(t, what, p, api.Fault{Code: api.ErrForm})
	}
}

// Programs that no text has are asked, too: their places are told as they stand.
func TestProgram(t *testing.T) { // P13.2
	name := func(s string, at int) api.Expr { return api.Expr{Kind: api.ExName, Name: s, At: at} }
	let := func(s string, e int) api.Item {
		return api.Item{Kind: api.ItLet, Name: s, Type: api.TypeFix, E: e, At: 60 - e}
	}
	checkProgram(t, "nothing", api.Program{}, api.Fault{Code: api.ErrName})
	checkProgram(t, "expressions alone", api.Program{Exprs: []api.Expr{{Kind: api.ExFix, At: 8}}}, api.Fault{Code: api.ErrName})
	m := api.Program{Decls: []api.Decl{{Kind: api.DeHybrid, At: 70, Items: []api.Item{let("b", 3), let("a", 2)}}}, Exprs: []api.Expr{
		name("c", math.MinInt), name("b", -5), {Kind: api.ExSqrt, A: 1}, name("a", 7), {Kind: api.ExPre, A: 0, At: math.MaxInt},
	}}
	checkProgram(t, "lets of each other", m, faultsAt(api.ErrCause, 57, 58)...)
	m.Decls[0].Items[1].E = 0
	checkProgram(t, "a name of none", m, faultsAt(api.ErrName, math.MinInt)...)
	m.Decls[0].Items = append(m.Decls[0].Items, let("c", 4))
	checkProgram(t, "what stands smooth", m, faultsAt(api.ErrKind, math.MaxInt)...)
	m.Decls[0].Items[2].Type = api.TypeBool
	checkProgram(t, "another type", m, faultsAt(api.ErrType, math.MinInt)...)
	m.Decls[0].Items[2] = api.Item{Kind: api.ItDer, Name: "c", E: 1, F: 1}
	checkProgram(t, "what isn't constant", m, faultsAt(api.ErrKind, -5)...)
	m.Decls[0].Items[2] = api.Item{Kind: api.ItMode, Name: "c"}
	checkProgram(t, "a mode", m, faultsAt(api.ErrName, math.MinInt)...)
	m.Decls[0].Params = []api.Param{{Name: "c", Type: api.TypeFix}}
	m.Decls[0].Items = m.Decls[0].Items[:2]
	checkProgram(t, "a parameter", m)
	// Too much, by one expression that is met again and again; where a hybrid stands may be anything.
	for i := range 60 {
		m.Exprs = append(m.Exprs, api.Expr{Kind: api.ExMul, A: i + 4, B: i + 4})
	}
	m.Exprs[4] = api.Expr{Kind: api.ExFix}
	for e, most := 4, 1; e < len(m.Exprs); e++ {
		m.Decls[0].At, m.Decls[0].Items = -e, []api.Item{let("a", e)}
		var want []api.Fault
		if most > 4000 {
			want = faultsAt(api.ErrRoom, -e)
		}
		checkProgram(t, "what is doubled", m, want...)
		most = min(2*most+1, 1_000_000)
	}
}

// A fault is told by its place and its code's word, whatever they are.
func TestSay(t *testing.T) { // P13.2
	words := map[api.Errno]string{
		api.ErrLex: "lexical", api.ErrSyntax: "syntax", api.ErrDepth: "depth", api.ErrName: "name", api.ErrType: "type", api.ErrKind: "kind", api.ErrRecurse: "recursion", api.ErrCause: "causality",
		api.ErrInit: "initialization", api.ErrRoom: "capacity", api.ErrForm: "form", api.ErrCode: "other", api.ErrArg: "other", api.ErrStill: "other", 15: "other", -1: "other", math.MaxInt: "other", math.MinInt: "other", 256: "other", 1 << 32: "other",
	}
	for code, word := range words {
		for at, place := range map[int]string{-1: "1:1", math.MinInt: "1:1", 0: "1:1", 1: "1:2", 2: "2:1", 3: "3:1", 4: "3:2", 6: "3:4", 7: "3:5", 8: "4:1", 9: "4:1", math.MaxInt: "4:1"} {
			if got := Say("a\n\n\xc3\xa4\r.\n", api.Fault{Code: code, At: at}); got != place+": "+word {
				t.Errorf("%d at %d: %q", code, at, got)
			}
		}
		if got := Say("", api.Fault{Code: code, At: 3}); got != "1:1: "+word {
			t.Errorf("%d of an empty text: %q", code, got)
		}
	}
	for _, s := range []string{"", "a", "\n\n", "@", "hybrid m() { }"} {
		if got := Say(s, api.Fault{}); got != "fine" {
			t.Errorf("%q: %q", s, got)
		}
	}
	for at, want := range map[int]string{1: "1:2: other", -1: "1:1: other", 9: "2:2: other", 2: "2:1: other"} {
		if got := Say("a\nb", api.Fault{At: at}); got != want {
			t.Errorf("no code at %d: %q", at, got)
		}
	}
	for s, want := range map[string]string{"hybrid m() { out x; }": "1:14: name", "hybrid m() { out q; }\n": "1:14: name", "hybrid m(u: fix) { let a: fix = a; }\n": "1:20: causality", "": "1:1: name", "hybrid m() {": "1:13: syntax", "\n\nhybrid\nm() { out x; }": "4:7: name"} {
		_, fault := Text(s)
		if got := Say(s, fault); got != want {
			t.Errorf("%q: %q", s, got)
		}
	}
}

// checkForm asks whether a text's own form has its faults, each of the same code, if it is no longer than a text may be.
func checkForm(t *testing.T, s string) {
	t.Helper()
	p, fault := parse.Parse(s)
	if fault.Code != api.OK {
		return
	}
	form := show.Program(p)
	if len(form) > api.MaxText {
		return
	}
	codes := func(s string) []api.Errno {
		var l []api.Errno
		for _, f := range Faults(s) {
			l = append(l, f.Code)
		}
		return l
	}
	if !slices.Equal(codes(form), codes(s)) {
		t.Errorf("%q: %v; its form %q: %v", s, Faults(s), form, Faults(form))
	}
	if q, _ := Text(form); len(Faults(s)) == 0 && !ast.SameAll(p, q) {
		t.Errorf("%q: its form %q isn't the same", s, form)
	}
}

// What has no fault is written without one.
func TestForms(t *testing.T) { // P13.3
	for _, s := range fineTexts() {
		checkForm(t, s)
		form, fault := show.Form(s)
		if fault != (api.Fault{}) {
			t.Errorf("%q: %v", s, fault)
		}
		checkText(t, form)
	}
	for _, s := range []string{ball, heat, tick, tank, wave, relay} {
		if form, _ := show.Form(s); form != s {
			t.Errorf("%q isn't its own form", s)
		}
	}
	for _, size := range []int{3999, 4000, 4001} {
		checkForm(t, sums(size))
	}
}

// sharesText tells whether a text has bytes of another one.
func sharesText(s, other string) bool {
	a, b := uintptr(unsafe.Pointer(unsafe.StringData(s))), uintptr(unsafe.Pointer(unsafe.StringData(other)))
	return len(s) > 0 && len(other) > 0 && a < b+uintptr(len(other)) && b < a+uintptr(len(s))
}

// textsOf are all texts that a program has.
func textsOf(p api.Program) []string {
	var l []string
	for _, d := range p.Decls {
		l = append(l, d.Name)
		for _, param := range d.Params {
			l = append(l, param.Name)
		}
		for _, it := range d.Items {
			l = append(append(l, it.Name, it.State, it.Next), it.States...)
		}
	}
	for _, x := range p.Exprs {
		l = append(l, x.Name, x.State)
	}
	return l
}

// What is handed in is neither changed nor shared with an answer, nor is an answer shared with another one.
func TestMemory(t *testing.T) { // rule 5
	for _, s := range []string{heat, tank, tick} {
		p, _ := Text(s)
		q, _ := Text(s)
		for i, text := range textsOf(p) {
			if sharesText(text, s) || sharesText(text, textsOf(q)[i]) {
				t.Errorf("%q is shared", text)
			}
		}
		for i := range p.Decls {
			p.Decls[i].Name = "z"
			for k := range p.Decls[i].Items {
				p.Decls[i].Items[k] = api.Item{}
			}
		}
		clear(p.Exprs)
		if again, _ := Text(s); !reflect.DeepEqual(q, again) {
			t.Error("a program is shared")
		}
	}
	for _, s := range []string{"@", "hybrid m() { out x; }", "hybrid m() { !let a: fix = a; }", sums(5000)} {
		want := Faults(s)
		l := slices.Clone(want)
		want[0] = api.Fault{Code: 50, At: 50}
		if !slices.Equal(Faults(s), l) {
			t.Error("faults are shared")
		}
	}
}

// A program that is handed in, its spare room, too, is as it was, whatever faults it has.
func TestUnchanged(t *testing.T) { // rule 5
	build := func(typ, size int) api.Program {
		items := []api.Item{{Kind: api.ItLet, Name: "y", Type: typ, E: 1, At: 2}, {Kind: api.ItMode, Name: "M", States: []string{"A", "B", "C"}[:2]}, {Kind: api.ItLet, Name: "spare", E: 7}}[:2]
		params := []api.Param{{Name: "u", Type: 1}, {Name: "spare", Type: 2}}[:1]
		exprs := []api.Expr{{Kind: api.ExName, Name: "u", At: 5}, {Kind: api.ExCall, Name: "g", Args: []int{0, 77}[:1], At: 6}, {Kind: api.ExBool, V: 9}}[:2]
		for len(exprs) < size {
			exprs = append(exprs, api.Expr{Kind: api.ExAdd, A: len(exprs) - 1, B: len(exprs) - 1})
		}
		g := api.Decl{Kind: api.DeFun, Name: "g", Type: 1, Params: params, E: 0}
		return api.Program{Exprs: exprs, Decls: []api.Decl{{Kind: api.DeHybrid, Name: "m", Params: params, Items: append(items[:1:1], api.Item{Kind: api.ItLet, Name: "w", Type: 1, E: len(exprs) - 1}), At: 4}, g, {Kind: api.DeNode, Name: "n", Type: typ, Items: items, Params: params, E: 0}, {Name: "spare"}}[:3]}
	}
	for _, c := range []struct {
		typ, size int
		want      []api.Fault
	}{{1, 2, nil}, {2, 2, faultsAt(api.ErrType, 5, 6)}, {1, 20, faultsAt(api.ErrRoom, 4)}} {
		p, q := build(c.typ, c.size), build(c.typ, c.size)
		for range 2 {
			checkProgram(t, "unchanged", p, c.want...)
			got := Program(p)
			if len(got) > 0 {
				got[0].At = 99
			}
		}
		if !reflect.DeepEqual(p, q) || !reflect.DeepEqual(spare(p), spare(q)) {
			t.Error("what was handed in is changed")
		}
	}
}

// spare is what lies behind the ends of a program's lists.
func spare(p api.Program) []any {
	d := p.Decls[2]
	return []any{p.Decls[:4][3], d.Params[:2][1], d.Items[:3][2], d.Items[1].States[:3][2], p.Exprs[:cap(p.Exprs)][len(p.Exprs):], p.Exprs[1].Args[:2][1]}
}

// Trees too deep for nested calls, and such as have too many numbers to be walked, are asked, too; so are many lets.
func TestGreat(t *testing.T) { // P13.2, rule 1
	const deep = 50_000
	defer debug.SetMaxStack(debug.SetMaxStack(2 << 20))
	let := func(name string, e int) api.Item {
		return api.Item{Kind: api.ItLet, Name: name, Type: 1, E: e, At: e}
	}
	for _, next := range []func(i int) api.Expr{
		func(i int) api.Expr { return api.Expr{Kind: api.ExNeg, A: i} },
		func(i int) api.Expr { return api.Expr{Kind: api.ExAdd, A: i, B: i} },
	} {
		l := []api.Expr{{Kind: api.ExFix, At: 1}}
		for i := range deep {
			l = append(l, next(i))
		}
		p := api.Program{Exprs: l, Decls: []api.Decl{{Kind: api.DeFun, Name: "f", Type: 1, E: deep}, {Kind: api.DeHybrid, Name: "m", At: 9, Items: []api.Item{let("z", 0)}}}}
		checkProgram(t, "a great tree", p)
		p.Decls[1].Items[0].E = deep
		checkProgram(t, "a great tree", p, api.Fault{Code: api.ErrRoom, At: 9})
		p.Exprs[0] = api.Expr{Kind: api.ExBool, At: 1}
		checkProgram(t, "a great tree", p, api.Fault{Code: api.ErrType, At: 1})
		p.Exprs[0] = api.Expr{Kind: api.ExName, Name: "z", At: 1}
		checkProgram(t, "a great tree", p, api.Fault{Code: api.ErrName, At: 1})
	}
	// A ring of lets, and a chain.
	p := api.Program{Decls: []api.Decl{{Kind: api.DeHybrid, Name: "m", At: -3}}}
	var ring []int
	for i := range deep {
		p.Exprs = append(p.Exprs, api.Expr{Kind: api.ExName, Name: "z" + strconv.Itoa((i+1)%deep)})
		p.Decls[0].Items = append(p.Decls[0].Items, let("z"+strconv.Itoa(i), i))
		ring = append(ring, i)
	}
	checkProgram(t, "a ring", p, faultsAt(api.ErrCause, ring...)...)
	p.Exprs[7] = api.Expr{Kind: api.ExFix}
	checkProgram(t, "a chain", p, api.Fault{Code: api.ErrRoom, At: -3})
}
