package lower

import (
	"reflect"
	"slices"
	"strconv"
	"strings"
	"testing"

	"astrolabe/api"
	"astrolabe/check"
)

// Programs that no text has.

func name(s string) api.Expr { return api.Expr{Kind: api.ExName, Name: s} }

func of(kind int, parts ...int) api.Expr {
	parts = append(slices.Clone(parts), 0, 0, 0)
	return api.Expr{Kind: kind, A: parts[0], B: parts[1], C: parts[2]}
}

func call(s string, args ...int) api.Expr {
	return api.Expr{Kind: api.ExCall, Name: s, Args: args}
}

func fix(q int64) api.Expr { return api.Expr{Kind: api.ExFix, V: q} }

func let(s string, e int) api.Item {
	return api.Item{Kind: api.ItLet, Name: s, Type: api.TypeFix, E: e}
}

func mem(s string, e int) api.Item {
	return api.Item{Kind: api.ItMem, Name: s, Type: api.TypeFix, E: e}
}

func params(words string) []api.Param {
	var l []api.Param
	for _, s := range strings.Fields(words) {
		l = append(l, api.Param{Name: s, Type: api.TypeFix})
	}
	return l
}

func checkRight(t *testing.T, what string, p api.Program) {
	t.Helper()
	if l := check.Program(p); len(l) > 0 {
		t.Fatalf("%s: %v", what, l)
	}
}

// A number that is met twice has its code twice, each time with cells of its own; in another declaration its names are other things.
func TestShared(t *testing.T) { // P15.1
	p := api.Program{
		Exprs: []api.Expr{name("a"), name("b"), of(api.ExFby, 0, 1), of(api.ExAdd, 2, 2), call("n", 1, 0), fix(0)},
		Decls: []api.Decl{
			{Kind: api.DeNode, Name: "n", Type: 1, Params: params("b a"), E: 2},
			{Kind: api.DeHybrid, Name: "m", Params: params("a"), Items: []api.Item{mem("b", 5), {Kind: api.ItOn, Name: "b", E: 3, F: 0}, {Kind: api.ItOn, Name: "b", E: 4, F: 0}}},
		},
	}
	o := objectOf(t, "shared", p)
	checkCells(t, "shared", o.Mem, 0, 1, 0, 1, 0, 1, 0)
	checkPiece(t, "shared", o.Zero, "in 0 0, put 0 0, in 1 0, put 1 1")
	checkPiece(t, "shared", o.Step, "cross 0 1, skip 0 9, mem 1 0, in 2 0, mem 3 5, mem 4 6, pick 5 3 2 4, const 6 0, store 5 6, store 6 1, store 0 5, "+
		"cross 7 0, skip 7 18, mem 8 1, mem 9 2, in 10 0, pick 11 8 10 9, mem 12 3, mem 13 4, in 14 0, pick 15 12 14 13, add 16 11 15, const 17 0, store 1 17, mem 18 0, store 2 18, const 19 0, store 3 19, mem 20 0, store 4 20, store 0 16")
}

// Lets that have one number are several all the same.
func TestSharedLets(t *testing.T) { // P15.1
	p := api.Program{
		Exprs: []api.Expr{name("u"), of(api.ExNeg, 0), name("a"), name("b"), of(api.ExAdd, 3, 2), of(api.ExAdd, 4, 1), of(api.ExAdd, 5, 3)},
		Decls: []api.Decl{{Kind: api.DeHybrid, Name: "m", Params: params("u"), Items: []api.Item{let("a", 1), let("b", 1), let("c", 6), {Kind: api.ItOut, Name: "c"}}}},
	}
	checkPiece(t, "lets", objectOf(t, "lets", p).At, "in 0 0, neg 1 0, in 2 0, neg 3 2, add 4 1 3, in 5 0, neg 6 5, add 7 4 6, add 8 7 1, put 0 8")
}

// A fun with lets has them as a node has; what a fun or a node has of other items has no place in the object: it is 0.
func TestItemsOfCalled(t *testing.T) { // P15.1, rule 1
	items := []api.Item{let("l", 2), {Kind: api.ItDer, Name: "d", E: 4, F: 4}, {Kind: api.ItMode, Name: "M", States: []string{"A"}}, mem("q", 4), {Kind: api.ItReset, Name: "d", E: 4, F: 4}, {Kind: api.ItOut, Name: "l"}, let("o", 6)}
	p := api.Program{
		Exprs: []api.Expr{name("a"), name("d"), of(api.ExAdd, 0, 0), name("q"), fix(7), name("l"), of(api.ExMul, 5, 5), name("o"), of(api.ExSub, 7, 7), of(api.ExAdd, 1, 3), name("u"), call("f", 10), call("g", 10), call("f", 4)},
		Decls: []api.Decl{
			{Kind: api.DeFun, Name: "f", Type: 1, Params: params("a"), Items: items, E: 8},
			{Kind: api.DeNode, Name: "g", Type: 1, Params: params("a"), Items: items, E: 9},
			{Kind: api.DeHybrid, Name: "m", Params: params("u"), Items: []api.Item{mem("k", 4), {Kind: api.ItDer, Name: "d", E: 11, F: 13}, mem("q", 4), {Kind: api.ItOn, Name: "q", E: 12, F: 1}}},
		},
	}
	o := objectOf(t, "items", p)
	checkPiece(t, "a fun", o.Deriv, "in 0 0, add 1 0 0, mul 2 1 1, sub 3 2 2, put 0 3")
	checkPiece(t, "its own", o.Zero, "state 0 0, put 0 0")
	checkPiece(t, "a node", o.Step, "cross 0 0, skip 0 5, in 1 0, const 2 0, const 3 0, add 4 2 3, store 1 4")
	checkCells(t, "items", o.Mem, 7, 7)
	if !slices.Equal(o.State, []int64{0}) || o.Cross != 1 || len(o.Out) != 0 {
		t.Error(o)
	}
}

// A from has no cells, whatever the expression 0 has.
func TestFromHasNoCells(t *testing.T) { // P15.1
	p := api.Program{
		Exprs: []api.Expr{call("n"), fix(5), of(api.ExFby, 1, 1), name("k")},
		Decls: []api.Decl{
			{Kind: api.DeNode, Name: "n", Type: 1, E: 2},
			{Kind: api.DeHybrid, Name: "m", Items: []api.Item{
				mem("k", 1), {Kind: api.ItMode, Name: "M", States: []string{"A"}}, {Kind: api.ItFrom, Name: "M", State: "A", Next: "A", F: 3}, {Kind: api.ItOn, Name: "k", E: 0, F: 3},
			}},
		},
	}
	o := objectOf(t, "from", p)
	checkCells(t, "from", o.Mem, 5, 0, 1, 0)
	checkPiece(t, "from", o.Step, "cross 0 1, skip 0 9, mem 1 2, mem 2 3, const 3 #5, pick 4 1 3 2, const 5 0, store 2 5, const 6 #5, store 3 6, store 0 4, cross 7 0, skip 7 6, mem 8 1, const 9 0, same 10 8 9, skip 10 2, const 11 0, store 1 11")
}

// Types are told as they stand; a mode without states has a memory.
func TestOddTypes(t *testing.T) { // P15.1
	p := api.Program{
		Exprs: []api.Expr{name("v"), fix(3)},
		Decls: []api.Decl{{Kind: api.DeHybrid, Name: "m", Type: 5, Params: []api.Param{{Name: "v", Type: 7}, {Name: "w", Type: -2}, {Name: "b", Type: 2}, {Name: "o"}}, Items: []api.Item{
			{Kind: api.ItMode, Name: "M"}, {Kind: api.ItLet, Name: "l", Type: 7, E: 0}, {Kind: api.ItOut, Name: "l", Type: 9}, mem("k", 1), {Kind: api.ItDer, Name: "x", Type: 6, E: 1, F: 1}, {Kind: api.ItOut, Name: "x"}, {Kind: api.ItOut, Name: "k"},
		}}},
	}
	o := objectOf(t, "types", p)
	if !slices.Equal(o.In, []int{7, -2, 2, 0}) || !slices.Equal(o.Out, []int{7, 1, 1}) {
		t.Error(o.In, o.Out)
	}
	checkCells(t, "types", o.Mem, 3, 0)
	checkPiece(t, "types", o.At, "in 0 0, put 0 0, state 1 0, put 1 1, mem 2 0, put 2 2")
}

// A constant's number may stand elsewhere, too.
func TestSharedConst(t *testing.T) { // P15.1
	p := api.Program{
		Exprs: []api.Expr{fix(3 * one), of(api.ExNeg, 0), fix(0), of(api.ExDiv, 1, 2)},
		Decls: []api.Decl{
			{Kind: api.DeNode, Name: "n", Type: 1, Items: []api.Item{mem("k", 3), {Kind: api.ItDer, Name: "d", E: 3, F: 3}}, E: 1},
			{Kind: api.DeHybrid, Name: "m", Items: []api.Item{{Kind: api.ItDer, Name: "x", E: 3, F: 1}, {Kind: api.ItDer, Name: "y", E: 1, F: 1}, {Kind: api.ItReset, Name: "x", E: 3, F: 3}, mem("k", 0)}},
		},
	}
	o := objectOf(t, "constants", p)
	if !slices.Equal(o.State, []int64{-3 * one, -3 * one}) || !slices.Equal(o.Mem, []int64{3 * one}) || o.Flags != 0 {
		t.Error(o)
	}
	p.Decls[1].Items[1].F = 3
	if o = objectOf(t, "constants", p); o.State[1] != -1<<63 || o.Flags != api.FlagZero {
		t.Error(o)
	}
}

// checkBank asks for the objects of as many items as may be, and of one more.
func checkBank(t *testing.T, what string, text func(n int) string, of func(o api.Object) int) {
	t.Helper()
	o := objectOf(t, what, read(t, text(api.MaxBank)))
	if of(o) != api.MaxBank {
		t.Errorf("%s: %d", what, of(o))
	}
	for _, n := range []int{api.MaxBank + 1, api.MaxBank + 100} {
		s := text(n)
		checkFault(t, what, read(t, s), api.Fault{Code: api.ErrRoom, At: strings.Index(s, "hybrid")})
	}
}

// Banks may have 200, whatever they have these of.
func TestMaxBank(t *testing.T) { // P15.1
	many := func(n int, s string) string {
		var l strings.Builder
		for i := range n {
			l.WriteString(strings.ReplaceAll(s, "#", strconv.Itoa(i)))
		}
		return l.String()
	}
	checkBank(t, "parameters", func(n int) string { return "hybrid m(" + many(n-1, "u#: fix, ") + "b: bool) { }" }, func(o api.Object) int { return len(o.In) })
	checkBank(t, "outs", func(n int) string {
		return "fun f(): fix = 1; hybrid m() { der x = f() init 0; " + many(n, "out x;") + "}"
	}, func(o api.Object) int { return len(o.Out) })
	checkBank(t, "states", func(n int) string { return "# one\nhybrid m() { " + many(n, "der x# = 1 init 0;") + "}" }, func(o api.Object) int { return len(o.State) })
	memories := func(o api.Object) int { return len(o.Mem) }
	checkBank(t, "mems", func(n int) string { return " hybrid m() { " + many(n, "mem k#: bool init true;") + "}" }, memories)
	checkBank(t, "modes", func(n int) string { return " hybrid m() { " + many(n, "mode M# {A};") + "}" }, memories)
	checkBank(t, "cells", func(n int) string {
		return "hybrid m() { mem k: fix init 0; on 1 set k = 0 " + many(n-1, "+ (0 -> 1) ") + ";}"
	}, memories)
	checkBank(t, "mems, modes, and cells", func(n int) string {
		return "node c(a: fix): fix { return 0 fby a; } hybrid m() { " + many(50, "mem k#: fix init 0; mode M# {A};") + many(49, "on 1 set k# = c(#);") + "der x = 1 init 0; " + many(n-198, "reset x on 1 = 0 -> #;") + "}"
	}, memories)
	crossings := func(o api.Object) int { return o.Cross }
	checkBank(t, "resets", func(n int) string { return "hybrid m() { der x = 1 init 0;" + many(n, "reset x on x = #;") + "}" }, crossings)
	checkBank(t, "ons", func(n int) string { return "hybrid m() { mem k: fix init 0;" + many(n, "on k set k = #;") + "}" }, crossings)
	checkBank(t, "froms", func(n int) string { return "hybrid m() { mode M {A, B};" + many(n, "from M.A on 1 goto B;") + "}" }, crossings)
	checkBank(t, "resets, ons, and froms", func(n int) string {
		return "hybrid m() { mode M {A, B}; der x = 1 init 0; mem k: fix init 0;" + many(n-150, "from M.A on 1 goto B;") + many(75, "on 1 set k = 1; reset x on 1 = 1;") + "}"
	}, crossings)
	// As many of all at once.
	o := objectOf(t, "all", read(t, "hybrid m("+many(199, "u#: fix, ")+"v: fix) {"+many(200, "der x# = v init 0;out x#;reset x# on 1 = 1;")+many(200, "mem k#: fix init 0;")+"}"))
	if len(o.In) != 200 || len(o.Out) != 200 || len(o.State) != 200 || len(o.Mem) != 200 || o.Cross != 200 {
		t.Error(len(o.In), len(o.Out), len(o.State), len(o.Mem), o.Cross)
	}
}

// isRow is a sum of fixes, whose code is as long as is told, and whose tree is smaller: to ask for a state is three instructions.
func isRow(length int) string {
	s := "(if M is A then 1 else 1)"
	at := 6
	for ; at+7 <= length; at += 7 {
		s += " + (if M is A then 1 else 1)"
	}
	for ; at+2 <= length; at += 2 {
		s += " + 1"
	}
	if at < length {
		s = "-(" + s + ")"
	}
	return s
}

// Each piece may have 4,000 instructions.
func TestMaxCode(t *testing.T) { // P15.1
	for what, c := range map[string]struct {
		text    func(length int) string
		besides int // instructions beside the row's
		piece   func(o api.Object) []api.Ins
	}{
		"deriv": {func(n int) string { return "der x = " + isRow(n) + " init 0;" }, 1, func(o api.Object) []api.Ins { return o.Deriv }},
		"zero":  {func(n int) string { return "from M.A on " + isRow(n) + " goto A;" }, 1, func(o api.Object) []api.Ins { return o.Zero }},
		"at":    {func(n int) string { return "let l: fix = " + isRow(n) + "; out l; out l;" }, 2, func(o api.Object) []api.Ins { return o.At }},
		"on":    {func(n int) string { return "mem k: fix init 0; on 1 set k = " + isRow(n) + ";" }, 3, func(o api.Object) []api.Ins { return o.Step }},
		"reset": {func(n int) string { return "der x = 1 init 0; reset x on 1 = " + isRow(n-7) + " + (0 -> 1);" }, 3, func(o api.Object) []api.Ins { return o.Step }},
	} {
		for n := api.MaxCode - c.besides - 6; n < api.MaxCode-c.besides+6; n++ {
			s := "fun f(): fix = 1; hybrid m() { mode M {A, B}; " + c.text(n) + " }"
			p := read(t, s)
			want := modelObject(p)
			length := len(c.piece(want))
			if length != n+c.besides {
				t.Fatalf("%s: %d: %d instructions", what, n, length)
			}
			if length > api.MaxCode {
				checkFault(t, what, p, api.Fault{Code: api.ErrRoom, At: strings.Index(s, "hybrid")})
				continue
			}
			if o := objectOf(t, what, p); !sameObject(o, want) {
				t.Errorf("%s: %d: %d, wanted %d", what, n, len(c.piece(o)), length)
			}
		}
	}
}

// Trees as deep as they may be.
func TestDeep(t *testing.T) { // P15.1, rule 1
	prefixes := func(n int) api.Program {
		exprs := []api.Expr{fix(0), name("k")}
		for range n {
			exprs = append(exprs, of(api.ExNeg, len(exprs)-1))
		}
		return api.Program{Exprs: exprs, Decls: []api.Decl{{Kind: api.DeHybrid, Name: "m", At: 3, Items: []api.Item{mem("k", 0), {Kind: api.ItOn, Name: "k", E: n + 1, F: 0}}}}}
	}
	const most = api.MaxCode - 4
	p := prefixes(most)
	o := objectOf(t, "prefixes", p)
	if !sameObject(o, modelObject(p)) || len(o.Step) != api.MaxCode {
		t.Error(len(o.Step))
	}
	// One more is right by layer 13, but too much for a piece; two more are too much for layer 13.
	p = prefixes(most + 1)
	checkRight(t, "prefixes", p)
	checkFault(t, "too much", p, api.Fault{Code: api.ErrRoom, At: 3})
	checkFault(t, "too much", prefixes(most+2), api.Fault{Code: api.ErrRoom, At: 3})
	// Each is the next one's B, which stands behind all else.
	exprs := []api.Expr{fix(0), name("k")}
	for range 99 {
		exprs = append(exprs, of(api.ExFby, 0, len(exprs)-1))
	}
	p = api.Program{Exprs: exprs, Decls: []api.Decl{{Kind: api.DeHybrid, Name: "m", Items: []api.Item{mem("k", 0), {Kind: api.ItOn, Name: "k", E: len(exprs) - 1, F: 0}}}}}
	o = objectOf(t, "fbys", p)
	if !sameObject(o, modelObject(p)) || len(o.Mem) != 199 || len(o.Step) != 2+99*4+99*3+1+1 {
		t.Error(len(o.Mem), len(o.Step))
	}
}

// Each crossing has the code of a let again: what is a great deal too much is told soon.
func TestGreatStep(t *testing.T) { // P15.1
	text := func(row, crossings int) string {
		return "hybrid m(u: fix) { mode M {A}; mem k: fix init 0; let l: fix = " + isRow(row) + ";" + strings.Repeat("on l set k = l;", crossings) + "}"
	}
	for row, most := range map[int]int{3997: 1, 3996: 1, 1997: 2, 1998: 1, 1330: 3, 1331: 2, 397: 10, 398: 9} {
		o := objectOf(t, "some", read(t, text(row, most)))
		if len(o.Step) != (row+3)*most {
			t.Errorf("%d: %d, %d", row, most, len(o.Step))
		}
		checkFault(t, "one more", read(t, text(row, most+1)), api.Fault{Code: api.ErrRoom})
		checkFault(t, "all", read(t, text(row, api.MaxBank)), api.Fault{Code: api.ErrRoom})
	}
}

// Declarations that nobody calls, and lets for which nobody asks, have no code.
func TestBesides(t *testing.T) { // P15.1
	p := api.Program{Exprs: []api.Expr{name("u"), of(api.ExAdd, 0, 0)}, Decls: []api.Decl{
		{Kind: api.DeHybrid, Name: "m", Params: params("u"), Items: []api.Item{let("l", 1), let("o", 0), {Kind: api.ItOut, Name: "o"}}},
		{Kind: api.DeFun, Name: "f", Type: 1, Params: params("u")},
	}}
	for range 50_000 {
		p.Exprs = append(p.Exprs, of(api.ExMul, len(p.Exprs)-1, len(p.Exprs)-1))
	}
	p.Decls[1].E = len(p.Exprs) - 1
	p.Exprs = append(p.Exprs, name("nobody"), call("m", 0), of(api.ExPre, 0))
	o := objectOf(t, "beside", p)
	checkPiece(t, "beside", o.At, "in 0 0, put 0 0")
	if len(o.Deriv)+len(o.Zero)+len(o.Step) > 0 {
		t.Error(Text(o))
	}
}

// An object is one's own: what is handed in isn't changed, and nothing is shared.
func TestOwn(t *testing.T) { // P15.1, rules 5 and 6
	build := func() api.Program {
		exprs := []api.Expr{name("u"), fix(3), of(api.ExFby, 1, 0), call("f", 2), {Kind: api.ExIs, Name: "M", State: "B"}, of(api.ExIf, 4, 3, 0), fix(99)}[:6]
		exprs[3].Args = []int{2, 5}[:1]
		items := []api.Item{mem("k", 1), {Kind: api.ItOn, Name: "k", E: 5, F: 0}, {Kind: api.ItMode, Name: "M", States: []string{"A", "B", "spare"}[:2]}, {Kind: api.ItDer, Name: "x", E: 0, F: 1}, {Kind: api.ItOut, Name: "x"}, let("spare", 9)}[:5]
		return api.Program{Exprs: exprs, Decls: []api.Decl{
			{Kind: api.DeHybrid, Name: "m", Params: []api.Param{{Name: "u", Type: 1}, {Name: "spare"}}[:1], Items: items},
			{Kind: api.DeFun, Name: "f", Type: 1, Params: params("u"), E: 0}, {Name: "spare"},
		}[:2]}
	}
	spare := func(p api.Program) []any {
		d := p.Decls[0]
		return []any{p.Decls[:3][2], p.Exprs[:7][6], p.Exprs[3].Args[:2][1], d.Items[:6][5], d.Items[2].States[:3][2], d.Params[:2][1]}
	}
	p := build()
	o, other := objectOf(t, "own", p), objectOf(t, "own", p)
	if !reflect.DeepEqual(p, build()) || !reflect.DeepEqual(spare(p), spare(build())) {
		t.Error("what was handed in is changed")
	}
	text := Text(o)
	checkOwn(t, &o)
	if !sameObject(other, objectOf(t, "own", p)) || Text(other) != text || Text(other) != Text(objectOf(t, "own", build())) {
		t.Error("objects share something")
	}
	// Text changes nothing.
	copied := other
	copied.Deriv, copied.Step = slices.Clone(other.Deriv), slices.Clone(other.Step)
	Text(other)
	if !sameObject(copied, other) {
		t.Error("changed by Text")
	}
}

// checkOwn fills an object's lists, and what room they have, one behind the other: none is another one's.
func checkOwn(t *testing.T, o *api.Object) {
	t.Helper()
	ints := []*[]int{&o.In, &o.Out}
	banks := []*[]int64{&o.State, &o.Mem}
	pieces := []*[]api.Ins{&o.Deriv, &o.Zero, &o.Step, &o.At}
	fill(ints, func(i int) int { return 100 + i })
	fill(banks, func(i int) int64 { return 200 + int64(i) })
	fill(pieces, func(i int) api.Ins { return api.Ins{Op: 300 + i} })
	for i, l := range ints {
		if len(*l) == 0 || (*l)[0] != 100+i {
			t.Error("shared", i, *l)
		}
	}
	for i, l := range banks {
		if len(*l) == 0 || (*l)[0] != 200+int64(i) {
			t.Error("shared", i, *l)
		}
	}
	for i, l := range pieces {
		if len(*l) == 0 || (*l)[0].Op != 300+i {
			t.Error("shared", i, *l)
		}
	}
}

func fill[T any](lists []*[]T, with func(i int) T) {
	for i, l := range lists {
		whole := (*l)[:cap(*l)]
		for k := range whole {
			whole[k] = with(i)
		}
	}
}
