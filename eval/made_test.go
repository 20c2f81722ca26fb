package eval

import (
	"math"
	"reflect"
	"slices"
	"strconv"
	"strings"
	"testing"

	"astrolabe/api"
	"astrolabe/calls"
	"astrolabe/check"
)

// Programs that no text has.

func name(s string) api.Expr { return api.Expr{Kind: api.ExName, Name: s} }

func of(kind int, parts ...int) api.Expr {
	parts = append(slices.Clone(parts), 0, 0, 0)
	return api.Expr{Kind: kind, A: parts[0], B: parts[1], C: parts[2]}
}

func call(s string, args ...int) api.Expr {
	return api.Expr{Kind: api.ExCall, Name: s, Args: args}
}

func fix(q int64) api.Expr { return api.Expr{Kind: api.ExFix, V: q} }

func let(s string, e int) api.Item {
	return api.Item{Kind: api.ItLet, Name: s, Type: api.TypeFix, E: e}
}

func params(words string) []api.Param {
	var l []api.Param
	for _, s := range strings.Fields(words) {
		l = append(l, api.Param{Name: s, Type: api.TypeFix})
	}
	return l
}

func checkRight(t *testing.T, what string, p api.Program) {
	t.Helper()
	if l := check.Program(p); len(l) > 0 {
		t.Fatalf("%s: %v", what, l)
	}
}

// A number that is met twice is evaluated twice, each time with cells of its own.
func TestShared(t *testing.T) { // P14.1, P14.2
	p := api.Program{
		Exprs: []api.Expr{
			name("a"), name("b"), of(api.ExFby, 0, 1), of(api.ExAdd, 2, 2), of(api.ExFby, 3, 3), of(api.ExArrow, 2, 2), // 5
			call("n", 1, 0), call("n", 6, 6), fix(0), // 8
		},
		Decls: []api.Decl{
			{Kind: api.DeNode, Name: "n", Type: 1, Params: params("b a"), E: 2},
			{Kind: api.DeHybrid, Name: "m", Params: params("a"), Items: []api.Item{
				{Kind: api.ItMem, Name: "b", Type: 1, E: 8}, {Kind: api.ItOn, Name: "b", E: 2, F: 0}, {Kind: api.ItOn, Name: "b", E: 4, F: 0}, {Kind: api.ItOn, Name: "b", E: 5, F: 0}, {Kind: api.ItOn, Name: "b", E: 7, F: 0},
			}},
		},
	}
	checkRight(t, "shared", p)
	at := api.Point{In: []int64{3}, Mem: []int64{40}}
	checkCells(t, "once", p, 2, 1, 0)
	checkValue(t, "once", p, at, 2, []int64{1, 0}, 3, 0, []int64{0, 40})
	checkCells(t, "twice", p, 3, 1, 0, 1, 0)
	checkValue(t, "twice", p, at, 3, []int64{1, 0, 0, 7}, 10, 0, []int64{0, 40, 0, 40})
	// Two cells, those of the A, and then those of the B.
	checkCells(t, "delayed", p, 4, 1, 0, 1, 0, 1, 0, 1, 0, 1, 0)
	checkValue(t, "delayed", p, at, 4, []int64{1, 0, 1, 0, 0, 5, 1, 0, 0, 9}, 8, 0, []int64{0, 12, 0, 40, 0, 40, 0, 40, 0, 40})
	checkCells(t, "arrow", p, 5, 1, 1, 0, 1, 0)
	checkValue(t, "arrow", p, at, 5, []int64{0, 1, 0, 0, 8}, 8, 0, []int64{0, 0, 40, 0, 40})
	// In n the same number is of a, its second parameter, and b, its first one.
	checkCells(t, "call", p, 6, 1, 0)
	checkValue(t, "call", p, at, 6, []int64{1, 0}, 3, 0, []int64{0, 40})
	checkValue(t, "call", p, at, 6, []int64{0, 6}, 6, 0, []int64{0, 40})
	checkCells(t, "calls", p, 7, 1, 0, 1, 0, 1, 0)
	checkValue(t, "calls", p, at, 7, []int64{0, 6, 0, 7, 1, 0}, 7, 0, []int64{0, 40, 0, 40, 0, 6})
}

// Lets that have one number are several all the same, and one that is also a part of another expression is evaluated there again.
func TestSharedLets(t *testing.T) { // P14.1, P14.2
	p := api.Program{
		Exprs: []api.Expr{name("a"), of(api.ExFby, 0, 0), name("b"), name("c"), of(api.ExAdd, 3, 2), of(api.ExAdd, 4, 2), of(api.ExAdd, 5, 1), name("u"), call("n", 7), fix(0)},
		Decls: []api.Decl{
			{Kind: api.DeHybrid, Name: "m", Params: params("u"), Items: []api.Item{{Kind: api.ItMem, Name: "k", Type: 1, E: 9}, {Kind: api.ItOn, Name: "k", E: 8, F: 7}}},
			{Kind: api.DeNode, Name: "n", Type: 1, Params: params("a"), Items: []api.Item{let("b", 1), let("c", 1)}, E: 6},
		},
	}
	checkRight(t, "lets", p)
	checkCells(t, "lets", p, 8, 1, 0, 1, 0, 1, 0)
	checkValue(t, "lets", p, api.Point{In: []int64{5}, Mem: []int64{0}}, 8, []int64{0, 10, 0, 200, 0, 3000}, 10+2*200+3000, 0, []int64{0, 5, 0, 5, 0, 5})
}

// A fun with lets has them as a node has; what a fun or a node has of other items is none of the point's.
func TestItemsOfCalled(t *testing.T) { // P14.2, rule 1
	items := []api.Item{let("l", 2), {Kind: api.ItDer, Name: "d", E: 4, F: 4}, {Kind: api.ItMode, Name: "M", States: []string{"A"}}, {Kind: api.ItMem, Name: "q", Type: 1, E: 4}, {Kind: api.ItReset, Name: "d", E: 4, F: 4}, {Kind: api.ItOut, Name: "l"}, let("o", 6)}
	p := api.Program{
		Exprs: []api.Expr{name("a"), name("d"), of(api.ExAdd, 0, 0), name("q"), fix(7), name("l"), of(api.ExAdd, 5, 5), name("o"), of(api.ExAdd, 7, 7), of(api.ExAdd, 1, 3), name("u"), call("f", 10), call("g", 10), call("f", 4)},
		Decls: []api.Decl{
			{Kind: api.DeFun, Name: "f", Type: 1, Params: params("a"), Items: items, E: 8},
			{Kind: api.DeNode, Name: "g", Type: 1, Params: params("a"), Items: items, E: 9},
			{Kind: api.DeHybrid, Name: "m", Params: params("u"), Items: []api.Item{{Kind: api.ItDer, Name: "d", E: 11, F: 13}, {Kind: api.ItMem, Name: "q", Type: 1, E: 4}, {Kind: api.ItOn, Name: "q", E: 12, F: 1}}},
		},
	}
	checkRight(t, "items", p)
	at := api.Point{In: []int64{5}, State: []int64{-9}, Mem: []int64{-8}}
	checkValue(t, "a fun", p, at, 11, nil, 40, 0, nil)
	checkConst(t, "a fun", p, 13, 56, 0)
	checkConst(t, "a mem", p, 4, 7, 0)
	checkConst(t, "no constant", p, 11, 0, 0)
	checkValue(t, "a node", p, at, 12, nil, 0, 0, nil)
	checkValue(t, "its own", p, at, 1, nil, -9, 0, nil)
}

// Other types than fix and bool have any numbers; a mode without states has none.
func TestOddTypes(t *testing.T) { // P14.2, P14.3
	p := api.Program{
		Exprs: []api.Expr{name("v"), fix(1), {Kind: api.ExBool, V: 1}},
		Decls: []api.Decl{{Kind: api.DeHybrid, Name: "m", Params: []api.Param{{Name: "v", Type: 7}, {Name: "w", Type: -2}, {Name: "b", Type: 2}, {Name: "o"}}, Items: []api.Item{
			{Kind: api.ItLet, Name: "l", Type: 7, E: 0}, {Kind: api.ItMem, Name: "k", Type: 1, E: 1}, {Kind: api.ItMem, Name: "q", Type: 2, E: 2},
		}}},
	}
	checkRight(t, "types", p)
	for _, q := range []int64{0, 2, -1, math.MaxInt64, math.MinInt64} {
		checkFits(t, "any", p, api.Point{In: []int64{q, q, 1, q}, Mem: []int64{q, 0}}, true)
		checkValue(t, "any", p, api.Point{In: []int64{q, q, 1, q}, Mem: []int64{q, 1}}, 0, nil, q, 0, nil)
		checkFits(t, "a bool", p, api.Point{In: []int64{q, q, q, q}, Mem: []int64{q, 0}}, q == 0)
		checkFits(t, "a bool", p, api.Point{In: []int64{q, q, 0, q}, Mem: []int64{q, q}}, q == 0)
	}
	p.Decls[0].Items = append(p.Decls[0].Items, api.Item{Kind: api.ItMode, Name: "M"}, api.Item{Kind: api.ItOn, Name: "k", E: 4, F: 1})
	p.Exprs = append(p.Exprs, fix(5), of(api.ExFby, 1, 3))
	checkRight(t, "no states", p)
	for _, q := range []int64{0, 1, -1} {
		at := api.Point{In: []int64{0, 0, 0, 0}, Mem: []int64{0, 0}, Mode: []int64{q}}
		checkFits(t, "no states", p, at, false)
		checkNone(t, "no states", p, at, 0, nil)
	}
	checkCells(t, "no states", p, 4, 1, 0)
	checkConst(t, "no states", p, 1, 1, 0)
	checkConst(t, "no states", p, 2, 1, 0)
}

// A number that stands in a constant place, and elsewhere, too, is a constant; so is one that several declarations have.
func TestSharedConst(t *testing.T) { // P14.3
	p := api.Program{
		Exprs: []api.Expr{fix(3), of(api.ExNeg, 0), of(api.ExAdd, 1, 1), fix(9)},
		Decls: []api.Decl{
			{Kind: api.DeNode, Name: "n", Type: 1, Items: []api.Item{{Kind: api.ItMem, Name: "k", Type: 1, E: 3}, {Kind: api.ItDer, Name: "d", E: 3, F: 3}}, E: 1},
			{Kind: api.DeHybrid, Name: "m", Items: []api.Item{{Kind: api.ItDer, Name: "x", E: 2, F: 1}, let("l", 1), {Kind: api.ItMem, Name: "k", Type: 1, E: 2}}},
		},
	}
	checkRight(t, "constants", p)
	for e, want := range []int64{0, -3, -6, 0} {
		checkConst(t, "constants", p, e, want, 0)
	}
	checkNone(t, "another one's", p, api.Point{State: []int64{0}, Mem: []int64{0}}, 3, nil)
	checkValue(t, "a part", p, api.Point{State: []int64{0}, Mem: []int64{0}}, 0, nil, 3, 0, nil)
}

// great is a program with a mem k, and an on whose E is the last expression; it is as much as is told.
func great(t *testing.T, size int, exprs []api.Expr, items []api.Item, decls ...api.Decl) (api.Program, int) {
	t.Helper()
	e := len(exprs) - 1
	items = append([]api.Item{{Kind: api.ItMem, Name: "k", Type: 1, E: 0}, {Kind: api.ItOn, Name: "k", E: e, F: 0}}, items...)
	decls = append(decls, api.Decl{Kind: api.DeHybrid, Name: "m", Items: items})
	p := api.Program{Exprs: exprs, Decls: decls}
	if got := calls.Size(p, len(decls)-1); got != size {
		t.Fatalf("size %d, wanted %d", got, size)
	}
	return p, e
}

// Trees as deep as they may be, and as great as one may be by itself.
func TestDeep(t *testing.T) { // P14.1, P14.2, rule 1
	at := api.Point{Mem: []int64{5}}
	exprs := []api.Expr{fix(0), name("k")}
	for range api.MaxFlat - 3 {
		exprs = append(exprs, of(api.ExNeg, len(exprs)-1))
	}
	p, e := great(t, api.MaxFlat, exprs, nil)
	checkValue(t, "prefixes", p, at, e, nil, -5, 0, nil)
	checkConst(t, "prefixes", p, 0, 0, 0)
	// One more is too much.
	p, e = great(t, api.MaxFlat+1, append(exprs, of(api.ExNeg, e)), nil)
	checkNone(t, "too much", p, at, e, nil)
	checkNone(t, "too much", p, at, 0, nil)
	checkFits(t, "too much", p, at, false)
	checkCells(t, "too much", p, e)
	// Each is the next one's B, which is evaluated behind all else.
	exprs = []api.Expr{fix(0), name("k")}
	var cells, later, next []int64
	for i := range int64(api.MaxFlat-3) / 2 {
		exprs = append(exprs, of(api.ExFby, 0, len(exprs)-1))
		cells, later, next = append(cells, 1, 0), append(later, 0, i), append(next, 0, i+1)
	}
	next[len(next)-1] = 5
	p, e = great(t, api.MaxFlat-1, exprs, nil)
	checkCells(t, "fbys", p, e, cells...)
	checkValue(t, "fbys", p, at, e, later, 0, 0, next)
	checkNone(t, "fbys", p, at, e, later[1:])
	// A number that is twice a part of the next one.
	exprs = []api.Expr{fix(0), name("k")}
	for range 9 {
		exprs = append(exprs, of(api.ExAdd, len(exprs)-1, len(exprs)-1))
	}
	exprs = append(exprs, of(api.ExArrow, len(exprs)-1, len(exprs)-1))
	p, e = great(t, 2+1+2*(1<<10-1), exprs, nil)
	checkValue(t, "doubles", p, at, e, []int64{0}, 5<<9, 0, []int64{0})
}

// Lets in a row, of which the last one is asked for first.
func TestLetsInARow(t *testing.T) { // P14.1, P14.2, rule 1
	const many = api.MaxFlat/3 - 1
	at := api.Point{Mem: []int64{5}}
	exprs, items := []api.Expr{fix(0), name("k"), of(api.ExSub, 1, 1)}, []api.Item{let("l0", 2)}
	for i := range many - 1 {
		exprs = append(exprs, name("l"+strconv.Itoa(i)), of(api.ExSub, 1, len(exprs)))
		items = append(items, let("l"+strconv.Itoa(i+1), len(exprs)-1))
	}
	exprs = append(exprs, name("l"+strconv.Itoa(many-1)))
	p, e := great(t, 3+3*many, exprs, items)
	checkValue(t, "lets", p, at, e, nil, 5*((many-1)%2), 0, nil)
	// In a node, each with a delay: the next one is asked for behind all else, and each is asked for twice.
	exprs, items = []api.Expr{fix(0), name("a")}, nil
	for i := range 400 {
		exprs = append(exprs, name("l"+strconv.Itoa(i+1)), of(api.ExAdd, len(exprs), len(exprs)), of(api.ExFby, 1, len(exprs)+1))
		items = append(items, let("l"+strconv.Itoa(i), len(exprs)-1))
	}
	exprs = append(exprs, name("l0"), name("k"), call("n", len(exprs)+1))
	items = append(items, let("l400", 1))
	n := api.Decl{Kind: api.DeNode, Name: "n", Type: 1, Params: params("a"), Items: items, E: len(exprs) - 3}
	p, e = great(t, 2+2+400*5+2, exprs, nil, n)
	cells, next := slices.Repeat([]int64{1, 0}, 400), slices.Repeat([]int64{0, 10}, 400)
	checkCells(t, "delayed lets", p, e, cells...)
	checkValue(t, "delayed lets", p, at, e, cells, 5, 0, next)
}

// Declarations that call each other in a row, and calls that are each other's arguments.
func TestCallsInARow(t *testing.T) { // P14.1, P14.2, rule 1
	const many = api.MaxFlat/4 - 2
	at := api.Point{Mem: []int64{5}}
	for kind, cells := range map[int][]int64{api.DeFun: nil, api.DeNode: {0, 7}} {
		exprs := []api.Expr{fix(0), name("a"), name("k"), of(map[int]int{api.DeFun: api.ExAdd, api.DeNode: api.ExFby}[kind], 1, 1)}
		decls := []api.Decl{{Kind: kind, Name: "f0", Type: 1, Params: params("a"), E: 3}}
		for i := range many {
			exprs = append(exprs, call("f"+strconv.Itoa(i), 1), of(api.ExSub, len(exprs), 1))
			decls = append(decls, api.Decl{Kind: kind, Name: "f" + strconv.Itoa(i+1), Type: 1, Params: params("a"), E: len(exprs) - 1})
		}
		slices.Reverse(decls)
		p, e := great(t, 4+3+4*many, append(exprs, call("f"+strconv.Itoa(many), 2)), nil, decls...)
		if kind == api.DeFun {
			checkValue(t, "funs", p, at, e, cells, 10-5*many, 0, nil)
		} else {
			checkValue(t, "nodes", p, at, e, cells, 7-5*many, 0, []int64{0, 5})
		}
	}
	exprs := []api.Expr{fix(0), name("a"), of(api.ExFby, 0, 1), name("k")}
	var cells, next []int64
	for i := range int64(many) {
		exprs = append(exprs, call("n", len(exprs)-1))
		cells, next = append(cells, 0, i), append(next, 0, i-1)
	}
	next[1] = 5
	p, e := great(t, 3+4*many, exprs, nil, api.Decl{Kind: api.DeNode, Name: "n", Type: 1, Params: params("a"), E: 2})
	checkValue(t, "arguments", p, at, e, cells, many-1, 0, next)
}

// What the hybrid doesn't lead to may be as deep, and as great, as it is.
func TestBesides(t *testing.T) { // P14.2, P14.5, rule 1
	p := api.Program{Exprs: []api.Expr{name("u"), of(api.ExAdd, 0, 0)}, Decls: []api.Decl{
		{Kind: api.DeHybrid, Name: "m", Params: params("u"), Items: []api.Item{let("l", 1)}},
		{Kind: api.DeFun, Name: "f", Type: 1, Params: params("u")},
	}}
	for range 50_000 {
		p.Exprs = append(p.Exprs, of(api.ExMul, len(p.Exprs)-1, len(p.Exprs)-1))
	}
	p.Decls[1].E = len(p.Exprs) - 1
	p.Exprs = append(p.Exprs, name("nobody"), call("m", 0), of(api.ExPre, 0))
	checkValue(t, "beside", p, api.Point{In: []int64{4}}, 1, nil, 8, 0, nil)
	for _, e := range []int{2, p.Decls[1].E, len(p.Exprs) - 1, len(p.Exprs) - 2, len(p.Exprs) - 3} {
		checkNone(t, "beside", p, api.Point{In: []int64{4}}, e, nil)
	}
}

// Of many parameters, ders, mems and modes each one is its own.
func TestMany(t *testing.T) { // P14.2
	const many = 100
	at := api.Point{In: []int64{-1}}
	h := api.Decl{Kind: api.DeHybrid, Name: "m", Params: params("first")}
	var states []string
	for i := range int64(many) {
		s := strconv.FormatInt(i, 10)
		states = append(states, "S"+s)
		h.Params = append(h.Params, params("u"+s)...)
		h.Items = append(h.Items, api.Item{Kind: api.ItMode, Name: "M" + s, States: states[:i+1]}, api.Item{Kind: api.ItMem, Name: "k" + s, Type: 1}, api.Item{Kind: api.ItDer, Name: "x" + s})
		at.In, at.State, at.Mem, at.Mode = append(at.In, i), append(at.State, 2*i), append(at.Mem, 3*i), append(at.Mode, i)
	}
	is := func(m, s string) api.Expr { return api.Expr{Kind: api.ExIs, Name: "M" + m, State: "S" + s} }
	exprs := []api.Expr{fix(0), name("first"), name("u99"), name("u0"), name("x70"), name("k33"), is("99", "99"), is("99", "98"), is("7", "7"), is("8", "7"), is("0", "0")}
	want := []int64{0, -1, 99, 0, 140, 99, 1, 0, 1, 0, 1}
	for e, x := range exprs {
		typ := api.TypeFix
		if x.Kind == api.ExIs {
			typ = api.TypeBool
		}
		h.Items = append(h.Items, api.Item{Kind: api.ItLet, Name: "l" + strconv.Itoa(e), Type: typ, E: e})
	}
	p := api.Program{Exprs: exprs, Decls: []api.Decl{h}}
	checkRight(t, "many", p)
	for e, v := range want {
		checkValue(t, "many", p, at, e, nil, v, 0, nil)
	}
	for i := range at.Mode {
		at.Mode[i]++
		checkFits(t, "many", p, at, false)
		at.Mode[i]--
	}
}

// A Ready is one's own: what is handed in may be changed behind it, and it tells the same again.
func TestReady(t *testing.T) { // P14.5, P14.4, rules 5 and 6
	build := func() api.Program {
		exprs := []api.Expr{name("u"), fix(3), of(api.ExFby, 1, 0), call("f", 2), {Kind: api.ExIs, Name: "M", State: "B"}, of(api.ExIf, 4, 3, 0), fix(99)}[:6]
		exprs[3].Args = []int{2, 5}[:1]
		items := []api.Item{{Kind: api.ItMem, Name: "k", Type: 1, E: 1}, {Kind: api.ItOn, Name: "k", E: 5, F: 0}, {Kind: api.ItMode, Name: "M", States: []string{"A", "B", "spare"}[:2]}, let("spare", 9)}[:3]
		return api.Program{Exprs: exprs, Decls: []api.Decl{
			{Kind: api.DeHybrid, Name: "m", Params: []api.Param{{Name: "u", Type: 1}, {Name: "spare"}}[:1], Items: items},
			{Kind: api.DeFun, Name: "f", Type: 1, Params: params("u"), E: 0}, {Name: "spare"},
		}[:2]}
	}
	spare := func(p api.Program) []any {
		d := p.Decls[0]
		return []any{p.Decls[:3][2], p.Exprs[:7][6], p.Exprs[3].Args[:2][1], d.Items[:4][3], d.Items[2].States[:3][2], d.Params[:2][1]}
	}
	p := build()
	r, ok := Prepare(p)
	if !ok {
		t.Fatal(check.Program(p))
	}
	in, cells := []int64{5, 77}[:1], []int64{1, 0, 88}[:2]
	at := api.Point{In: in, Mem: []int64{0}, Mode: []int64{1}}
	ask := func() {
		t.Helper()
		v, flags, next, ok := r.Value(at, 5, cells)
		q, f := r.Const(1)
		if v != 3 || flags != 0 || !ok || !slices.Equal(next, []int64{0, 5}) || q != 3 || f != 0 || !slices.Equal(r.Cells(5), []int64{1, 0}) || !r.Fits(at) {
			t.Error(v, flags, next, ok, q, f, r.Cells(5), r.Fits(at))
		}
		next[0], r.Cells(5)[0] = 44, 55
	}
	ask()
	checkValue(t, "ready", p, at, 5, cells, 3, 0, []int64{0, 5})
	if !reflect.DeepEqual(p, build()) || !reflect.DeepEqual(spare(p), spare(build())) || in[:2][1] != 77 || cells[:3][2] != 88 || in[0] != 5 || !slices.Equal(cells, []int64{1, 0}) {
		t.Error("what was handed in is changed")
	}
	for i := range p.Exprs {
		p.Exprs[i] = fix(1000)
	}
	p.Exprs[3].Args = nil
	for i := range p.Decls {
		for k := range p.Decls[i].Items {
			clear(p.Decls[i].Items[k].States)
		}
		clear(p.Decls[i].Items)
		clear(p.Decls[i].Params)
		p.Decls[i] = api.Decl{}
	}
	ask()
	ask()
	// Two of one program tell the same, and so does a copy.
	r2, _ := Prepare(build())
	copied := *r
	r = r2
	ask()
	r = &copied
	ask()
}
