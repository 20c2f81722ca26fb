package ast

import (
	"math"
	"reflect"
	"runtime/debug"
	"slices"
	"strconv"
	"strings"
	"testing"
	"unsafe"

	"astrolabe/api"
)

// The model: what each kind has, said again by its fields' letters (A, B, C, l for Args, n for Name, s for State, f for a fix's V, b for a bool's), and trees as texts.

var kindHas = map[int]string{
	1: "f", 2: "b", 3: "n", 4: "A", 5: "A", 6: "AB", 7: "AB", 8: "AB", 9: "AB", 10: "AB", 11: "AB", 12: "AB", 13: "AB", 14: "AB",
	15: "ABC", 16: "A", 17: "AB", 18: "AB", 19: "nl", 20: "ns", 21: "A",
}

var itemHas = map[int]string{1: "E", 2: "EF", 3: "EF", 4: "E", 5: "EF", 6: "", 7: "F", 8: ""}

var declHas = map[int]string{1: "E", 2: "E", 3: ""}

func modelParts(x api.Expr) []int {
	var l []int
	for _, c := range kindHas[x.Kind] {
		switch c {
		case 'A':
			l = append(l, x.A)
		case 'B':
			l = append(l, x.B)
		case 'C':
			l = append(l, x.C)
		case 'l':
			l = append(l, x.Args...)
		}
	}
	return l
}

func modelMayAt(x api.Expr, number int) bool {
	has, ok := kindHas[x.Kind]
	for _, part := range modelParts(x) {
		ok = ok && part >= 0 && part <= number-1
	}
	for field, zero := range map[string]bool{
		"A": x.A == 0, "B": x.B == 0, "C": x.C == 0, "l": len(x.Args) == 0,
		"n": x.Name == "", "s": x.State == "", "fb": x.V == 0,
	} {
		ok = ok && (zero || strings.ContainsAny(has, field))
	}
	if strings.Contains(has, "n") {
		ok = ok && x.Name != ""
	}
	if strings.Contains(has, "s") {
		ok = ok && x.State != ""
	}
	if strings.Contains(has, "f") {
		ok = ok && x.V >= 0
	}
	if strings.Contains(has, "b") {
		ok = ok && (x.V == 0 || x.V == 1)
	}
	return ok
}

// modelStands tells whether a number may be an E or an F, in a program with so many expressions.
func modelStands(has string, field string, e, count int) bool {
	if strings.Contains(has, field) {
		return e >= 0 && e < count
	}
	return e == 0
}

func modelMay(p api.Program) bool {
	ok := true
	for i, x := range p.Exprs {
		ok = ok && modelMayAt(x, i)
	}
	for _, d := range p.Decls {
		ok = ok && modelStands(declHas[d.Kind], "E", d.E, len(p.Exprs))
		for _, it := range d.Items {
			ok = ok && modelStands(itemHas[it.Kind], "E", it.E, len(p.Exprs)) && modelStands(itemHas[it.Kind], "F", it.F, len(p.Exprs))
		}
	}
	return ok
}

// modelTree walks the whole tree.
func modelTree(p api.Program, e int) []int {
	l := []int{e}
	for _, part := range modelParts(p.Exprs[e]) {
		l = append(l, modelTree(p, part)...)
	}
	return l
}

func modelDeep(p api.Program, e int) int {
	deep := 0
	for _, part := range modelParts(p.Exprs[e]) {
		deep = max(deep, modelDeep(p, part))
	}
	return deep + 1
}

func modelNames(p api.Program, e int) []string {
	var l []string
	for _, n := range modelTree(p, e) {
		if x := p.Exprs[n]; x.Kind == 3 && !slices.Contains(l, x.Name) {
			l = append(l, x.Name)
		}
	}
	return l
}

// modelText is a tree as a text: the same texts are the same trees.
func modelText(p api.Program, e int) string {
	x := p.Exprs[e]
	s := strconv.Itoa(x.Kind) + " " + strconv.Quote(x.Name) + " " + strconv.Quote(x.State) + " " + strconv.FormatInt(x.V, 10) + "("
	for _, part := range modelParts(x) {
		s += modelText(p, part) + ","
	}
	return s + ")"
}

// Numbers drawn: the same ones each time.
type draw struct{ state uint64 }

func (d *draw) below(n int) int {
	d.state = d.state*6364136223846793005 + 1442695040888963407
	return int(d.state>>33) % n
}

// expr draws an expression that may be at a number, of few names and numbers, so that some are the same.
func (d *draw) expr(number int) api.Expr {
	for {
		x := api.Expr{Kind: d.below(21) + 1, At: d.below(9)}
		for _, c := range kindHas[x.Kind] {
			if number == 0 && strings.ContainsRune("ABC", c) {
				x.Kind = 0
				break
			}
			switch c {
			case 'A':
				x.A = d.below(number)
			case 'B':
				x.B = d.below(number)
			case 'C':
				x.C = d.below(number)
			case 'l':
				for range d.below(4) * min(number, 1) {
					x.Args = append(x.Args, d.below(number))
				}
			case 'n':
				x.Name = "xyz"[d.below(3):][:1]
			case 's':
				x.State = "ST"[d.below(2):][:1]
			case 'f', 'b':
				x.V = int64(d.below(2))
			}
		}
		if x.Kind != 0 {
			return x
		}
	}
}

func (d *draw) program(count int) api.Program {
	var p api.Program
	for i := range count {
		p.Exprs = append(p.Exprs, d.expr(i))
	}
	for range d.below(3) {
		x := api.Decl{Kind: d.below(3) + 1, Name: "d", Type: d.below(2) + 1}
		if declHas[x.Kind] != "" {
			x.E = d.below(count)
		}
		for range d.below(3) {
			it := api.Item{Kind: d.below(8) + 1, Name: "i"}
			if strings.Contains(itemHas[it.Kind], "E") {
				it.E = d.below(count)
			}
			if strings.Contains(itemHas[it.Kind], "F") {
				it.F = d.below(count)
			}
			x.Items = append(x.Items, it)
		}
		p.Decls = append(p.Decls, x)
	}
	return p
}

func fix(v int64) api.Expr                { return api.Expr{Kind: api.ExFix, V: v} }
func name(s string) api.Expr              { return api.Expr{Kind: api.ExName, Name: s} }
func one(kind, a int) api.Expr            { return api.Expr{Kind: kind, A: a} }
func two(kind, a, b int) api.Expr         { return api.Expr{Kind: kind, A: a, B: b} }
func call(s string, args ...int) api.Expr { return api.Expr{Kind: api.ExCall, Name: s, Args: args} }
func is(s, state string) api.Expr         { return api.Expr{Kind: api.ExIs, Name: s, State: state} }
func exprs(l ...api.Expr) api.Program     { return api.Program{Exprs: l} }
func copied(p api.Program) api.Program {
	return clone(reflect.ValueOf(p)).Interface().(api.Program)
}

// falling are the numbers from one on down to another one.
func falling(from, to int) (l []int) {
	for n := from; n >= to; n-- {
		l = append(l, n)
	}
	return l
}

// clone copies all that a value leads to.
func clone(v reflect.Value) reflect.Value {
	c := reflect.New(v.Type()).Elem()
	switch v.Kind() {
	case reflect.Slice:
		if v.IsNil() {
			return c
		}
		c.Set(reflect.MakeSlice(v.Type(), v.Len(), v.Len()))
		for i := range v.Len() {
			c.Index(i).Set(clone(v.Index(i)))
		}
	case reflect.Struct:
		for i := range v.NumField() {
			c.Field(i).Set(clone(v.Field(i)))
		}
	default:
		c.Set(v)
	}
	return c
}

// chain is an expression of prefixes, so many deep.
func chain(deep int, leaf api.Expr) api.Program {
	l := make([]api.Expr, deep)
	l[0] = leaf
	for i := 1; i < deep; i++ {
		l[i] = one(api.ExNeg, i-1)
	}
	return exprs(l...)
}

// doubled is an expression each of whose parts is met twice: its tree has 2^deep - 1 numbers.
func doubled(deep int, leaf api.Expr) api.Program {
	l := []api.Expr{leaf}
	for i := 1; i < deep; i++ {
		l = append(l, two(api.ExAdd, i-1, i-1))
	}
	return exprs(l...)
}

func TestParts(t *testing.T) { // P4.1
	for kind := -1; kind <= 30; kind++ {
		x := api.Expr{Kind: kind, A: 11, B: 12, C: 13, Name: "x", State: "s", V: 1, Args: []int{21, 22, 21}, At: 5}
		want := modelParts(x)
		if got := Parts(x); !slices.Equal(got, want) {
			t.Errorf("Parts of kind %d: %v, wanted %v", kind, got, want)
		}
		// Any numbers, of what may not be too.
		x.A, x.B, x.C, x.Args = -1, math.MaxInt, math.MinInt, []int{-5, math.MaxInt}
		if got, want := Parts(x), modelParts(x); !slices.Equal(got, want) {
			t.Errorf("Parts of kind %d: %v, wanted %v", kind, got, want)
		}
	}
	for _, c := range []struct {
		x    api.Expr
		want []int
	}{
		{two(api.ExAdd, 3, 4), []int{3, 4}},
		{two(api.ExFby, 4, 3), []int{4, 3}},
		{one(api.ExSqrt, 2), []int{2}},
		{api.Expr{Kind: api.ExIf, A: 1, B: 0, C: 2}, []int{1, 0, 2}},
		{call("f"), nil},
		{call("f", 2, 2, 0), []int{2, 2, 0}},
		{is("m", "s"), nil}, {name("x"), nil}, {fix(1), nil}, {api.Expr{}, nil},
	} {
		if got := Parts(c.x); !slices.Equal(got, c.want) {
			t.Errorf("Parts(%v): %v, wanted %v", c.x, got, c.want)
		}
	}
}

// Each kind, with each field changed by itself, stands at 3 in a program of five.
func TestMayOfExpressions(t *testing.T) { // P4.1
	ahead := []api.Expr{fix(0), fix(1), name("x")}
	ask := func(x api.Expr) {
		p := exprs(append(slices.Clone(ahead), x, fix(2))...)
		if got, want := May(p), modelMayAt(x, 3); got != want {
			t.Errorf("May of %+v at 3: %v", x, got)
		}
	}
	places := []int{math.MinInt, -1, 0, 1, 2, 3, 4, 5, math.MaxInt}
	for kind := -2; kind <= 30; kind++ {
		has := kindHas[kind]
		x := api.Expr{Kind: kind}
		if strings.Contains(has, "n") {
			x.Name = "n"
		}
		if strings.Contains(has, "s") {
			x.State = "s"
		}
		if _, ok := kindHas[kind]; ok != May(exprs(append(slices.Clone(ahead), x)...)) {
			t.Errorf("May of kind %d: %v", kind, !ok)
		}
		for _, n := range places {
			y := x
			y.A = n
			ask(y)
			y = x
			y.B = n
			ask(y)
			y = x
			y.C = n
			ask(y)
			y = x
			y.At = n
			ask(y)
			for _, args := range [][]int{nil, {}, {n}, {0, n}, {n, 2}, {2, n, 2}} {
				y = x
				y.Args = args
				ask(y)
			}
		}
		for _, v := range []int64{math.MinInt64, -1, 0, 1, 2, api.One, math.MaxInt64} {
			y := x
			y.V = v
			ask(y)
		}
		for _, s := range []string{"", "x", "\x00", "fby", strings.Repeat("x", 100), "é ;"} {
			y := x
			y.Name = s
			ask(y)
			y = x
			y.State = s
			ask(y)
			y.Name = s
			ask(y)
		}
	}
}

func TestMayOfParts(t *testing.T) { // P4.1
	for _, c := range []struct {
		p    api.Program
		want bool
	}{
		{api.Program{}, true},
		{api.Program{Exprs: []api.Expr{}, Decls: []api.Decl{}}, true},
		{exprs(fix(0)), true},
		{exprs(fix(0), one(api.ExNeg, 0)), true},
		{exprs(one(api.ExNeg, 0)), false}, // itself
		{exprs(one(api.ExNeg, 1), fix(0)), false},
		{exprs(fix(0), one(api.ExNeg, 1)), false},
		{exprs(fix(0), one(api.ExNeg, -1)), false},
		{exprs(fix(0), two(api.ExAnd, 0, 1)), false},
		{exprs(fix(0), two(api.ExAnd, 1, 0)), false},
		{exprs(call("f")), true},
		{exprs(call("f", 0)), false},
		{exprs(fix(0), call("f", 0, 0)), true},
		{exprs(fix(0), call("f", 0, 1)), false},
		{exprs(fix(0), call("", 0)), false},
		{exprs(fix(0), fix(1), api.Expr{Kind: api.ExIf, A: 1, B: 0, C: 1}), true},
		{exprs(fix(0), fix(1), api.Expr{Kind: api.ExIf, A: 1, B: 0, C: 2}), false},
		{exprs(name("")), false},
		{exprs(is("m", "")), false},
		{exprs(is("", "s")), false},
		{exprs(is("m", "s")), true},
		{exprs(api.Expr{}), false},
		// The last one, and the first one, are asked too.
		{exprs(fix(0), fix(1), fix(-1)), false},
		{exprs(fix(-1), fix(1), fix(0)), false},
		// No part's type is asked for, nor what names are.
		{exprs(name("x"), one(api.ExNot, 0), two(api.ExAdd, 1, 1), call("nobody", 2)), true},
	} {
		if got := May(c.p); got != c.want {
			t.Errorf("May(%v): %v", c.p, got)
		}
	}
}

func TestMayOfDeclarations(t *testing.T) { // P4.1
	places := []int{math.MinInt, -1, 0, 1, 2, 3, math.MaxInt}
	for _, l := range [][]api.Expr{nil, {fix(0)}, {fix(0), fix(1), fix(2)}} {
		for kind := -2; kind <= 12; kind++ {
			for _, e := range places {
				p := api.Program{Exprs: l, Decls: []api.Decl{{Kind: 3}, {Kind: kind, Name: "d", E: e}}}
				if got, want := May(p), modelStands(declHas[kind], "E", e, len(l)); got != want {
					t.Errorf("May of a declaration of kind %d, E %d, with %d expressions: %v", kind, e, len(l), got)
				}
				for _, f := range places {
					it := api.Item{Kind: kind, E: e, F: f}
					want := modelStands(itemHas[kind], "E", e, len(l)) && modelStands(itemHas[kind], "F", f, len(l))
					for _, d := range []api.Decl{{Kind: 3, Items: []api.Item{it}}, {Kind: 9, Items: []api.Item{{Kind: 8}, it, {Kind: 6}}}} {
						if got := May(api.Program{Exprs: l, Decls: []api.Decl{d}}); got != want {
							t.Errorf("May of an item of kind %d, E %d, F %d, with %d expressions: %v", kind, e, f, len(l), got)
						}
					}
				}
			}
		}
	}
	// Of a fun the items are asked too; names, types and states are not.
	p := api.Program{Exprs: []api.Expr{fix(0)}, Decls: []api.Decl{
		{Kind: 1, Params: []api.Param{{Type: -7}}, Items: []api.Item{{Kind: 6, States: []string{"", ""}, State: "a"}, {Kind: 1}}, Type: 99, At: -3},
	}}
	if !May(p) {
		t.Error("names, types and states are asked")
	}
	p.Decls[0].Items[1].E = 1
	if May(p) {
		t.Error("a fun's items aren't asked")
	}
}

func TestTree(t *testing.T) { // P4.2
	for _, c := range []struct {
		p    api.Program
		e    int
		want []int
	}{
		{exprs(fix(1), name("x"), two(api.ExAdd, 0, 1)), 2, []int{2, 0, 1}},
		{exprs(fix(1), name("x"), two(api.ExAdd, 1, 0)), 2, []int{2, 1, 0}},
		{exprs(fix(1), name("x"), two(api.ExAdd, 1, 0)), 1, []int{1}},
		// Each time it is met.
		{exprs(fix(1), two(api.ExAdd, 0, 0)), 1, []int{1, 0, 0}},
		{exprs(fix(1), one(api.ExNeg, 0), api.Expr{Kind: api.ExIf, A: 1, B: 0, C: 1}), 2, []int{2, 1, 0, 0, 1, 0}},
		{exprs(fix(1), call("f", 0, 0, 0), call("g", 1, 0)), 2, []int{2, 1, 0, 0, 0, 0}},
		{exprs(call("f")), 0, []int{0}},
		// Its parts' trees, not part by part.
		{exprs(fix(1), one(api.ExNeg, 0), fix(2), one(api.ExNeg, 2), two(api.ExSub, 1, 3)), 4, []int{4, 1, 0, 3, 2}},
		// What isn't of it isn't told.
		{exprs(fix(1), fix(2), one(api.ExNeg, 1), fix(3)), 2, []int{2, 1}},
	} {
		if got := Tree(c.p, c.e); !slices.Equal(got, c.want) {
			t.Errorf("Tree(%v, %d): %v, wanted %v", c.p, c.e, got, c.want)
		}
	}
}

func TestTreeIsCut(t *testing.T) { // P4.2
	const most = 100000
	for _, args := range []int{most - 2, most - 1, most, most + 1, 3 * most} {
		p := exprs(fix(1), call("f", make([]int, args)...))
		if got := Tree(p, 1); len(got) != min(args+1, most) || got[0] != 1 || slices.Max(got[1:]) != 0 {
			t.Errorf("a call of %d: %d numbers", args, len(got))
		}
	}
	for _, deep := range []int{16, 17, 18, 20} {
		p := doubled(deep, fix(1))
		whole := modelTree(p, deep-1)
		if got := Tree(p, deep-1); !slices.Equal(got, whole[:min(len(whole), most)]) {
			t.Errorf("doubled %d times: %d numbers of %d", deep, len(got), len(whole))
		}
	}
	// The cut comes inside of trees, too: those behind it add nothing.
	p := doubled(17, fix(1))
	p.Exprs = append(p.Exprs, call("f", 16, 16, 3))
	if got := Tree(p, 17); !slices.Equal(got, modelTree(p, 17)[:most]) {
		t.Error("a call of cut trees")
	}
	for _, deep := range []int{most - 1, most, most + 1, 3 * most} {
		if got, want := Tree(chain(deep, fix(1)), deep-1), falling(deep-1, max(deep-most, 0)); !slices.Equal(got, want) {
			t.Errorf("a chain of %d: %d numbers", deep, len(got))
		}
	}
}

func TestDeep(t *testing.T) { // P4.2
	for _, c := range []struct {
		p       api.Program
		e, want int
	}{
		{exprs(fix(1)), 0, 1},
		{exprs(fix(1), name("x"), two(api.ExAdd, 0, 1)), 2, 2},
		{exprs(call("f")), 0, 1},
		{exprs(is("m", "s")), 0, 1},
		{exprs(fix(1), call("f", 0)), 1, 2},
		// The deepest part: the first, the middle, the last one.
		{exprs(fix(1), one(api.ExNeg, 0), two(api.ExAdd, 1, 0)), 2, 3},
		{exprs(fix(1), one(api.ExNeg, 0), two(api.ExAdd, 0, 1)), 2, 3},
		{exprs(fix(1), one(api.ExNeg, 0), api.Expr{Kind: api.ExIf, A: 0, B: 1, C: 0}), 2, 3},
		{exprs(fix(1), one(api.ExNeg, 0), call("f", 0, 0, 1)), 2, 3},
		{exprs(fix(1), one(api.ExNeg, 0), fix(2)), 2, 1}, // not by its number
		{doubled(17, fix(1)), 16, 17},
		{chain(1000, fix(1)), 999, 1000},
		{chain(1000, fix(1)), 498, 499},
	} {
		if got := Deep(c.p, c.e); got != c.want {
			t.Errorf("Deep(%.200v, %d): %d, wanted %d", c.p, c.e, got, c.want)
		}
	}
}

func TestNames(t *testing.T) { // P4.2
	for _, c := range []struct {
		p    api.Program
		e    int
		want []string
	}{
		{exprs(fix(1), name("x"), two(api.ExAdd, 0, 1)), 2, []string{"x"}},
		{exprs(name("x")), 0, []string{"x"}},
		{exprs(fix(1)), 0, nil},
		// As they are met, not by their numbers.
		{exprs(name("x"), name("y"), two(api.ExAdd, 1, 0)), 2, []string{"y", "x"}},
		{exprs(name("a"), name("b"), name("c"), two(api.ExAdd, 1, 2), two(api.ExAdd, 3, 0)), 4, []string{"b", "c", "a"}},
		{exprs(name("a"), name("b"), name("c"), two(api.ExAdd, 1, 2), two(api.ExAdd, 0, 3)), 4, []string{"a", "b", "c"}},
		{exprs(name("a"), name("b"), name("c"), api.Expr{Kind: api.ExIf, A: 2, B: 0, C: 1}), 3, []string{"c", "a", "b"}},
		{exprs(name("a"), name("b"), one(api.ExNeg, 0), call("f", 1, 2, 0)), 3, []string{"b", "a"}},
		// Each once, of several expressions too.
		{exprs(name("x"), name("x"), name("y"), call("f", 2, 0, 1, 0, 2)), 3, []string{"y", "x"}},
		// A call's, and a mode's, name is none of ExName.
		{exprs(is("m", "s"), call("f", 0)), 1, nil},
		{exprs(is("m", "s"), call("x"), name("x"), name("m"), call("g", 0, 1, 3, 2)), 4, []string{"m", "x"}},
		// What isn't of it isn't told; a delay makes no difference.
		{exprs(name("x"), name("y"), one(api.ExPre, 1)), 2, []string{"y"}},
		{exprs(name("x"), name("y"), two(api.ExFby, 0, 1)), 2, []string{"x", "y"}},
	} {
		if got := Names(c.p, c.e); !slices.Equal(got, c.want) {
			t.Errorf("Names(%v, %d): %v, wanted %v", c.p, c.e, got, c.want)
		}
	}
}

// Beside no number of an expression, and of a program that may not be, there is nothing.
func TestNothing(t *testing.T) { // P4.2, P4.3
	right := api.Program{Exprs: []api.Expr{name("x"), one(api.ExNeg, 0)}, Decls: []api.Decl{{Kind: 1, Name: "f", E: 1}}}
	ask := func(what string, p api.Program, e int) {
		t.Helper()
		if l := Tree(p, e); len(l) != 0 {
			t.Errorf("%s: Tree(%d): %v", what, e, l)
		}
		if deep := Deep(p, e); deep != 0 {
			t.Errorf("%s: Deep(%d): %d", what, e, deep)
		}
		if l := Names(p, e); len(l) != 0 {
			t.Errorf("%s: Names(%d): %v", what, e, l)
		}
		if Same(p, e, right, 0) || Same(right, 0, p, e) || Same(p, e, p, e) {
			t.Errorf("%s: Same(%d)", what, e)
		}
	}
	for _, e := range []int{math.MinInt, -1, 2, 3, math.MaxInt} {
		ask("no expression's number", right, e)
	}
	for _, e := range []int{-1, 0, 1} {
		ask("an empty program", api.Program{}, e)
	}
	for what, turn := range map[string]func(*api.Program){
		"an expression behind it": func(p *api.Program) { p.Exprs = append(p.Exprs, api.Expr{}) },
		"a part behind":           func(p *api.Program) { p.Exprs[1].A = 1 },
		"a name":                  func(p *api.Program) { p.Exprs[0].Name = "" },
		"a declaration":           func(p *api.Program) { p.Decls[0].E = 2 },
		"a hybrid":                func(p *api.Program) { p.Decls[0].Kind = 3 },
		"an item":                 func(p *api.Program) { p.Decls[0].Items = []api.Item{{Kind: 1, E: -1}} },
	} {
		wrong := copied(right)
		turn(&wrong)
		for e := -1; e <= 3; e++ {
			ask(what, wrong, e)
		}
		if SameAll(wrong, right) || SameAll(right, wrong) || SameAll(wrong, wrong) {
			t.Errorf("%s: SameAll", what)
		}
	}
}

func TestSame(t *testing.T) { // P4.3
	p := exprs(name("x"), fix(1), two(api.ExAdd, 0, 1), name("x"), fix(2), two(api.ExAdd, 3, 1), two(api.ExAdd, 1, 0),
		is("m", "s"), is("m", "t"), is("n", "s"), name("m"), call("m"), call("m", 0), call("m", 0, 1), call("m", 1, 0),
		api.Expr{Kind: api.ExBool, V: 1}, api.Expr{Kind: api.ExBool}, fix(0))
	p.Exprs[3].At = 77
	for a := range p.Exprs {
		for b := range p.Exprs {
			if got, want := Same(p, a, p, b), modelText(p, a) == modelText(p, b); got != want {
				t.Errorf("Same(%v, %v): %v", p.Exprs[a], p.Exprs[b], got)
			}
		}
	}
	if !Same(p, 2, p, 5) || Same(p, 2, p, 6) {
		t.Error("x + 1, x + 1, 1 + x")
	}
}

// Where one tree ends and another one begins isn't lost.
func TestSameByItsParts(t *testing.T) { // P4.3
	p := exprs(name("x"), name("y"),
		call("f", 0, 1), call("f", 0), call("f"), call("f", 0, 1, 0), // 2 to 5
		call("f", 3), call("f", 3, 1), call("f", 4), call("f", 4, 0), call("f", 2), call("f", 4, 0, 1), // 6 to 11
		two(api.ExAdd, 0, 1), two(api.ExAdd, 12, 0), two(api.ExAdd, 0, 12), two(api.ExAdd, 12, 12), // 12 to 15
		api.Expr{Kind: api.ExIf, A: 0, B: 1, C: 0}, api.Expr{Kind: api.ExIf, A: 0, B: 0, C: 1}, api.Expr{Kind: api.ExIf, A: 1, B: 0, C: 0},
		one(api.ExNeg, 0), one(api.ExNot, 0), one(api.ExPre, 0), one(api.ExSqrt, 0), one(api.ExNeg, 19))
	for kind := api.ExAdd; kind <= api.ExOr; kind++ {
		p.Exprs = append(p.Exprs, two(kind, 0, 1), two(kind, 1, 0))
	}
	p.Exprs = append(p.Exprs, two(api.ExArrow, 0, 1), two(api.ExFby, 0, 1))
	for a := range p.Exprs {
		for b := range p.Exprs {
			if got, want := Same(p, a, p, b), modelText(p, a) == modelText(p, b); got != want {
				t.Errorf("Same of %s and %s: %v", modelText(p, a), modelText(p, b), got)
			}
		}
	}
}

// hybrid has one of each kind of items.
func hybrid() api.Program {
	return api.Program{
		Exprs: []api.Expr{name("u"), fix(1), fix(2), two(api.ExAdd, 0, 1), two(api.ExMul, 0, 2), is("m", "s")},
		Decls: []api.Decl{
			{Kind: 1, Name: "f", Params: []api.Param{{Name: "u", Type: 1}}, Type: 1, E: 3},
			{Kind: 2, Name: "n", Params: []api.Param{{Name: "u", Type: 1}}, Items: []api.Item{{Kind: 1, Name: "a", Type: 1, E: 4}}, Type: 1, E: 4},
			{Kind: 3, Name: "h", Params: []api.Param{{Name: "u", Type: 1}, {Name: "b", Type: 2}}, Items: []api.Item{
				{Kind: 1, Name: "a", Type: 2, E: 5},
				{Kind: 2, Name: "x", E: 3, F: 1},
				{Kind: 3, Name: "x", E: 4, F: 3},
				{Kind: 4, Name: "k", Type: 1, E: 1},
				{Kind: 5, Name: "k", E: 4, F: 3},
				{Kind: 6, Name: "m", States: []string{"s", "t"}},
				{Kind: 7, Name: "m", State: "s", Next: "t", F: 3},
				{Kind: 8, Name: "x"},
			}},
		},
	}
}

func TestSameAll(t *testing.T) { // P4.3
	p := hybrid()
	// Elsewhere in Exprs, each tree by itself, others between; other At.
	q := copied(p)
	q.Exprs = nil
	var put func(e int) int
	put = func(e int) int {
		x := clone(reflect.ValueOf(p.Exprs[e])).Interface().(api.Expr)
		switch len(modelParts(x)) {
		case 2:
			x.B = put(x.B)
			x.A = put(x.A)
		}
		x.At += 5
		q.Exprs = append(q.Exprs, name("other"), x)
		return len(q.Exprs) - 1
	}
	for d := range q.Decls {
		q.Decls[d].At = 9
		if declHas[q.Decls[d].Kind] != "" {
			q.Decls[d].E = put(q.Decls[d].E)
		}
		for i := range q.Decls[d].Items {
			it := &q.Decls[d].Items[i]
			it.At = -4
			if strings.Contains(itemHas[it.Kind], "F") {
				it.F = put(it.F)
			}
			if strings.Contains(itemHas[it.Kind], "E") {
				it.E = put(it.E)
			}
		}
	}
	if !SameAll(p, q) || !SameAll(q, p) || !SameAll(p, p) || !SameAll(q, q) {
		t.Error("another place makes a difference")
	}
	for _, c := range []struct {
		p, q api.Program
		want bool
	}{
		{api.Program{}, api.Program{}, true},
		{api.Program{}, api.Program{Decls: []api.Decl{}, Exprs: []api.Expr{}}, true},
		{exprs(fix(1)), exprs(name("x"), fix(2)), true}, // of no declaration
		{exprs(fix(1)), hybrid(), false},
		// nil and empty are one and the same.
		{api.Program{Decls: []api.Decl{{Kind: 3}}}, api.Program{Decls: []api.Decl{{Kind: 3, Params: []api.Param{}, Items: []api.Item{}}}}, true},
		{api.Program{Decls: []api.Decl{{Kind: 3, Items: []api.Item{{Kind: 6}}}}}, api.Program{Decls: []api.Decl{{Kind: 3, Items: []api.Item{{Kind: 6, States: []string{}}}}}}, true},
		// What has no E stands on no expression, whatever is the first one.
		{api.Program{Decls: []api.Decl{{Kind: 3, Items: []api.Item{{Kind: 8}}}}, Exprs: []api.Expr{fix(1)}}, api.Program{Decls: []api.Decl{{Kind: 3, Items: []api.Item{{Kind: 8}}}}, Exprs: []api.Expr{fix(2)}}, true},
		{api.Program{Decls: []api.Decl{{Kind: 3, Items: []api.Item{{Kind: 6}}}}}, api.Program{Decls: []api.Decl{{Kind: 3, Items: []api.Item{{Kind: 6}}}}, Exprs: []api.Expr{fix(2)}}, true},
		// Of kinds that there aren't, too.
		{api.Program{Decls: []api.Decl{{Kind: 9, Items: []api.Item{{Kind: -1}}}}}, api.Program{Decls: []api.Decl{{Kind: 9, Items: []api.Item{{Kind: -1}}}}}, true},
		{api.Program{Decls: []api.Decl{{Kind: 9}}}, api.Program{Decls: []api.Decl{{Kind: 8}}}, false},
	} {
		if got := SameAll(c.p, c.q); got != c.want {
			t.Errorf("SameAll(%v, %v): %v", c.p, c.q, got)
		}
		if got := SameAll(c.q, c.p); got != c.want {
			t.Errorf("SameAll(%v, %v): %v", c.q, c.p, got)
		}
	}
}

// Each thing of a program that is another one makes another program.
func TestSameAllOfOthers(t *testing.T) { // P4.3
	turns := map[string]func(p *api.Program){
		"a declaration more":  func(p *api.Program) { p.Decls = append(p.Decls, api.Decl{Kind: 3}) },
		"a declaration less":  func(p *api.Program) { p.Decls = p.Decls[:2] },
		"no declaration":      func(p *api.Program) { p.Decls = nil },
		"their order":         func(p *api.Program) { p.Decls[0], p.Decls[1] = p.Decls[1], p.Decls[0] },
		"a declaration twice": func(p *api.Program) { p.Decls[1] = p.Decls[0] },
		"a parameter's name":  func(p *api.Program) { p.Decls[0].Params[0].Name = "v" },
		"a parameter's type":  func(p *api.Program) { p.Decls[2].Params[1].Type = 1 },
		"parameters' order": func(p *api.Program) {
			l := p.Decls[2].Params
			l[0], l[1] = l[1], l[0]
		},
		"a parameter less":   func(p *api.Program) { p.Decls[2].Params = p.Decls[2].Params[:1] },
		"a parameter more":   func(p *api.Program) { p.Decls[0].Params = append(p.Decls[0].Params, api.Param{}) },
		"an item more":       func(p *api.Program) { p.Decls[0].Items = []api.Item{{Kind: 8}} },
		"an item less":       func(p *api.Program) { p.Decls[2].Items = p.Decls[2].Items[:7] },
		"an item twice":      func(p *api.Program) { p.Decls[2].Items = append(p.Decls[2].Items, p.Decls[2].Items[7]) },
		"a fun's E":          func(p *api.Program) { p.Decls[0].E = 4 },
		"a node's E":         func(p *api.Program) { p.Decls[1].E = 0 },
		"a state more":       func(p *api.Program) { p.Decls[2].Items[5].States = []string{"s", "t", "u"} },
		"a state less":       func(p *api.Program) { p.Decls[2].Items[5].States = []string{"s"} },
		"states' order":      func(p *api.Program) { p.Decls[2].Items[5].States = []string{"t", "s"} },
		"an operator":        func(p *api.Program) { p.Exprs[3].Kind = api.ExSub },
		"a number":           func(p *api.Program) { p.Exprs[1].V++ },
		"an expression":      func(p *api.Program) { p.Exprs[4].A = 2 },
		"an expression's is": func(p *api.Program) { p.Exprs[5].State = "t" },
	}
	for d, decl := range hybrid().Decls {
		at := "declaration " + strconv.Itoa(d)
		turns[at+": Name"] = func(p *api.Program) { p.Decls[d].Name = "other" }
		turns[at+": Type"] = func(p *api.Program) { p.Decls[d].Type += 1 }
		turns[at+": Kind"] = func(p *api.Program) { p.Decls[d].Kind, p.Decls[d].E = 3+d, 0 }
		for i, it := range decl.Items {
			at := at + ", item " + strconv.Itoa(i)
			turns[at+": Name"] = func(p *api.Program) { p.Decls[d].Items[i].Name = "other" }
			turns[at+": Type"] = func(p *api.Program) { p.Decls[d].Items[i].Type += 1 }
			turns[at+": States"] = func(p *api.Program) { p.Decls[d].Items[i].States = []string{"other"} }
			turns[at+": State"] = func(p *api.Program) { p.Decls[d].Items[i].State = "other" }
			turns[at+": Next"] = func(p *api.Program) { p.Decls[d].Items[i].Next = "other" }
			turns[at+": Kind"] = func(p *api.Program) {
				it := &p.Decls[d].Items[i]
				it.Kind, it.E, it.F = it.Kind+20, 0, 0
			}
			if strings.Contains(itemHas[it.Kind], "E") {
				turns[at+": E"] = func(p *api.Program) { p.Decls[d].Items[i].E = 2 }
			}
			if strings.Contains(itemHas[it.Kind], "F") {
				turns[at+": F"] = func(p *api.Program) { p.Decls[d].Items[i].F = 2 }
			}
		}
	}
	delete(turns, "declaration 2: Kind")
	for what, turn := range turns {
		p, q := hybrid(), hybrid()
		turn(&q)
		if !May(q) {
			t.Errorf("%s: it may not be", what)
		}
		if SameAll(p, q) || SameAll(q, p) {
			t.Errorf("%s makes no difference", what)
		}
		if !SameAll(q, q) {
			t.Errorf("%s: it isn't the same as itself", what)
		}
	}
	// A reset, and an on, of the same: kinds alone make a difference.
	one := api.Program{Exprs: []api.Expr{fix(1)}, Decls: []api.Decl{{Kind: 3, Items: []api.Item{{Kind: 3, Name: "x"}}}}}
	other := copied(one)
	other.Decls[0].Items[0].Kind = 5
	if SameAll(one, other) {
		t.Error("a reset is an on")
	}
	other = copied(one)
	other.Decls[0].Kind = 1
	if SameAll(one, other) {
		t.Error("a hybrid is a fun")
	}
}

// Programs drawn, and some of what they are turned to.
func TestAsModel(t *testing.T) { // P4.1, P4.2, P4.3
	d := &draw{5}
	may, mayNot, same := 0, 0, 0
	for range 4000 {
		p := d.program(d.below(7) + 1)
		if !May(p) {
			t.Fatalf("May(%+v)", p)
		}
		q := turned(d, p)
		if got, want := May(q), modelMay(q); got != want {
			t.Errorf("May(%+v): %v", q, got)
		} else if got {
			may++
		} else {
			mayNot++
			continue
		}
		for b := range q.Exprs {
			if got, want := Tree(q, b), modelTree(q, b); !slices.Equal(got, want) {
				t.Errorf("Tree(%+v, %d): %v, wanted %v", q, b, got, want)
			}
			if got, want := Deep(q, b), modelDeep(q, b); got != want {
				t.Errorf("Deep(%+v, %d): %v, wanted %v", q, b, got, want)
			}
			if got, want := Names(q, b), modelNames(q, b); !slices.Equal(got, want) {
				t.Errorf("Names(%+v, %d): %v, wanted %v", q, b, got, want)
			}
			for a := range p.Exprs {
				got, want := Same(p, a, q, b), modelText(p, a) == modelText(q, b)
				if got != want || Same(q, b, p, a) != want {
					t.Errorf("Same(%+v, %d, %+v, %d): %v", p, a, q, b, got)
				}
				if got {
					same++
				}
			}
		}
	}
	if may < 500 || mayNot < 500 || same < 500 {
		t.Errorf("%d may be, %d may not, %d are the same", may, mayNot, same)
	}
}

// turned is a program one of whose things is another one.
func turned(d *draw, p api.Program) api.Program {
	q := copied(p)
	x := &q.Exprs[d.below(len(q.Exprs))]
	numbers := []*int{&x.Kind, &x.A, &x.B, &x.C, &x.At}
	for i := range x.Args {
		numbers = append(numbers, &x.Args[i])
	}
	for i := range q.Decls {
		numbers = append(numbers, &q.Decls[i].E, &q.Decls[i].Kind)
		for j := range q.Decls[i].Items {
			it := &q.Decls[i].Items[j]
			numbers = append(numbers, &it.E, &it.F, &it.Kind)
		}
	}
	switch d.below(8) {
	case 0:
		x.Name = []string{"", "x"}[d.below(2)]
	case 1:
		x.State = []string{"", "S"}[d.below(2)]
	case 2:
		x.V = int64(d.below(4)) - 1
	case 3:
		x.Args = [][]int{nil, {}, {0}, {-1}}[d.below(4)]
	default:
		*numbers[d.below(len(numbers))] = d.below(9) - 1
	}
	return q
}

func TestWhatFollows(t *testing.T) { // P4.4
	d := &draw{11}
	pairs := 0
	for range 1500 {
		p := d.program(d.below(12) + 1)
		q := copied(p)
		for i := range q.Exprs {
			q.Exprs[i].At = -1
		}
		if !SameAll(p, p) || !SameAll(p, q) {
			t.Errorf("%+v isn't the same as itself", p)
		}
		for a := range p.Exprs {
			if !Same(p, a, p, a) || !Same(p, a, q, a) {
				t.Errorf("%+v: %d isn't the same as itself", p, a)
			}
			for b := range a {
				if Same(p, a, p, b) {
					pairs++
					if Deep(p, a) != Deep(p, b) {
						t.Errorf("%+v: %d and %d are the same, but not as deep", p, a, b)
					}
				}
			}
		}
	}
	if pairs < 250 {
		t.Errorf("only %d pairs are the same", pairs)
	}
}

// Trees that are too great, or too deep, to be walked have answers, too.
func TestGreatTrees(t *testing.T) { // P4.2, P4.3, rule 1
	const deep = 100_000
	// Calls nested so deep would need more than this.
	defer debug.SetMaxStack(debug.SetMaxStack(4 << 20))
	for _, c := range []struct {
		make func(deep int, leaf api.Expr) api.Program
		deep int
	}{{chain, deep}, {doubled, deep}} {
		p, q, other := c.make(c.deep, name("x")), c.make(c.deep, name("x")), c.make(c.deep, name("y"))
		if got := Deep(p, c.deep-1); got != c.deep {
			t.Errorf("Deep: %d, wanted %d", got, c.deep)
		}
		if got := Names(p, c.deep-1); !slices.Equal(got, []string{"x"}) {
			t.Errorf("Names: %v", got)
		}
		if !Same(p, c.deep-1, q, c.deep-1) || Same(p, c.deep-1, q, c.deep-2) || Same(p, c.deep-1, other, c.deep-1) {
			t.Error("Same")
		}
		for _, r := range []*api.Program{&p, &q, &other} {
			r.Decls = []api.Decl{{Kind: 1, E: c.deep - 1}}
		}
		if !SameAll(p, q) || SameAll(p, other) {
			t.Error("SameAll")
		}
	}
}

// One tree of parts that are met more than once, and one whose parts stand each by itself, are the same.
func TestSharedParts(t *testing.T) { // P4.3
	once := doubled(10, fix(1))
	var each api.Program
	var put func(deep int) int
	put = func(deep int) int {
		x := fix(1)
		if deep > 1 {
			a := put(deep - 1)
			x = two(api.ExAdd, a, put(deep-1))
		}
		each.Exprs = append(each.Exprs, x)
		return len(each.Exprs) - 1
	}
	last := put(10)
	if !Same(once, 9, each, last) || !Same(each, last, once, 9) {
		t.Error("they aren't the same")
	}
	each.Exprs[0].V = 2
	if Same(once, 9, each, last) || Same(each, last, once, 9) {
		t.Error("they are the same")
	}
}

// Nothing that is handed in is changed, or shared with an answer.
func TestMemory(t *testing.T) { // rule 5
	text := []byte("abc")
	p := hybrid()
	p.Exprs[0].Name = unsafe.String(unsafe.SliceData(text), len(text))
	args := []int{0, 1, 0, 77, 78}
	p.Exprs = append(p.Exprs, call("f", args[:3]...), two(api.ExAdd, 6, 3))
	kept := copied(p)
	kept.Exprs[0].Name = "abc"

	parts, tree, names := Parts(p.Exprs[6]), Tree(p, 7), Names(p, 7)
	Deep(p, 7)
	Same(p, 7, p, 6)
	SameAll(p, p)
	if !reflect.DeepEqual(p, kept) || args[3] != 77 || args[4] != 78 {
		t.Error("what was handed in is changed")
	}
	for _, l := range [][]int{parts, tree} {
		l = l[:cap(l)]
		for i := range l {
			l[i] = 99
		}
	}
	if !reflect.DeepEqual(p, kept) || args[3] != 77 {
		t.Error("an answer shares what was handed in")
	}
	if again := Parts(p.Exprs[6]); !slices.Equal(again, []int{0, 1, 0}) {
		t.Error("two answers share their numbers")
	}
	clear(text)
	if !slices.Equal(names, []string{"abc"}) {
		t.Errorf("Names shares its texts: %q", names)
	}
}
