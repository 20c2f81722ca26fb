package eval

import (
	"slices"
	"strconv"
	"strings"
	"testing"

	"astrolabe/api"
	"astrolabe/ast"
	"astrolabe/check"
	"astrolabe/kinds"
	"astrolabe/names"
	"astrolabe/types"
)

// drawer draws texts without faults, and points: the same ones each time.
type drawer struct {
	state    uint64
	names    map[bool][]string // what there is in the declaration that is drawn, bools and fixes
	states   []string
	later    map[bool][]string // its lets that come later
	callable []callable
	discrete bool // whether what is drawn may have a memory
	late     bool // whether it may be late
}

// callable is a declaration that is drawn: those behind it may call it.
type callable struct{ node, isBool bool }

func (d *drawer) below(n int) int {
	d.state = d.state*6364136223846793005 + 1442695040888963407
	return int(d.state>>33) % n
}

func pickOf[T any](d *drawer, l ...T) T { return l[d.below(len(l))] }

func (d *drawer) atom(isBool bool) string {
	l := d.names[isBool]
	switch {
	case len(l) > 0 && d.below(4) > 0:
		return pickOf(d, l...)
	case isBool && len(d.states) > 0 && d.below(2) == 0:
		return pickOf(d, d.states...)
	case isBool:
		return pickOf(d, "true", "false")
	}
	return pickOf(d, "0", "1", "2.5", "0.125", "100", "2147483647", "0.0000000003")
}

func (d *drawer) call(isBool bool, deep int) string {
	for range 4 {
		if len(d.callable) == 0 {
			break
		}
		i := d.below(len(d.callable))
		c := d.callable[i]
		if c.isBool == isBool && (d.discrete || !c.node) {
			return "d" + strconv.Itoa(i) + "(" + d.inTime(false, deep) + ", " + d.inTime(true, deep) + ")"
		}
	}
	return d.atom(isBool)
}

// inTime draws what mustn't be late.
func (d *drawer) inTime(isBool bool, deep int) string {
	late := d.late
	d.late = false
	s := d.expr(isBool, deep)
	d.late = late
	return s
}

// delayed draws what has a memory: lets that come later may be asked for there.
func (d *drawer) delayed(isBool bool, deep int) string {
	if !d.discrete {
		return d.atom(isBool)
	}
	part := func() string { return d.inTime(isBool, deep) }
	behind := func() string {
		late := d.late
		d.late = true
		s := d.expr(isBool, deep)
		d.late = late
		return s
	}
	k := d.below(5)
	l := d.later[isBool]
	switch {
	case k == 0 && len(l) > 0:
		return "(" + part() + " -> pre " + pickOf(d, l...) + ")"
	case k < 2 && len(l) > 0:
		return "(" + part() + " fby " + pickOf(d, l...) + ")"
	case k < 2:
		return "(" + part() + " fby " + part() + ")"
	case k == 2 && d.late:
		return "pre (" + part() + ")"
	case k == 3:
		return "(" + part() + " -> " + behind() + ")"
	}
	return "(" + part() + " -> pre (" + part() + "))"
}

func (d *drawer) expr(isBool bool, deep int) string {
	part := func(isBool bool) string { return d.expr(isBool, deep-1) }
	if deep == 0 || d.below(6) == 0 {
		return d.atom(isBool)
	}
	k := d.below(8)
	switch {
	case k == 0:
		return "(if " + part(true) + " then " + part(isBool) + " else " + part(isBool) + ")"
	case k < 4:
		return d.delayed(isBool, deep-1)
	case k == 4:
		return d.call(isBool, deep-1)
	case isBool && k == 5:
		return "not " + part(true)
	case isBool && k == 6:
		return "(" + part(true) + pickOf(d, " and ", " or ", " == ") + part(true) + ")"
	case isBool:
		return "(" + part(false) + pickOf(d, " < ", " <= ", " == ") + part(false) + ")"
	case k == 5:
		return pickOf(d, "-", "sqrt ") + part(false)
	}
	return "(" + part(false) + pickOf(d, " + ", " - ", " * ", " / ") + part(false) + ")"
}

// placed draws an expression of a place.
func (d *drawer) placed(discrete, isBool bool, deep int) string {
	d.discrete = discrete
	s := d.inTime(isBool, deep)
	d.discrete = false
	return s
}

func typeOf(isBool bool) string {
	if isBool {
		return "bool"
	}
	return "fix"
}

// lets draws lets, in any order: those that come earlier may be asked for at once.
func (d *drawer) lets(discrete bool) []string {
	d.later = map[bool][]string{}
	var drawn []bool
	for i := range d.below(5) {
		isBool := d.below(3) == 0
		drawn = append(drawn, isBool)
		d.later[isBool] = append(d.later[isBool], "l"+strconv.Itoa(i))
	}
	var l []string
	for i, isBool := range drawn {
		name := "l" + strconv.Itoa(i)
		s := "let " + name + ": " + typeOf(isBool) + " = " + d.placed(discrete, isBool, 3) + ";\n"
		l = slices.Insert(l, d.below(len(l)+1), s)
		d.later[isBool] = slices.DeleteFunc(d.later[isBool], func(s string) bool { return s == name })
		d.names[isBool] = append(d.names[isBool], name)
	}
	return l
}

// declared draws a fun or a node.
func (d *drawer) declared() string {
	c := callable{d.below(3) > 0, d.below(3) == 0}
	d.names, d.states = map[bool][]string{false: {"a"}, true: {"b"}}, nil
	head := "d" + strconv.Itoa(len(d.callable)) + "(a: fix, b: bool): " + typeOf(c.isBool) + " "
	s := "fun " + head + "= "
	if c.node {
		s = "node " + head + "{\n" + strings.Join(d.lets(true), "") + "return "
		s += d.placed(true, c.isBool, 3) + ";\n}\n"
	} else {
		d.later = nil
		s += d.placed(false, c.isBool, 3) + ";\n"
	}
	d.callable = append(d.callable, c)
	return s
}

func (d *drawer) constant(isBool bool) string {
	had, states, later := d.names, d.states, d.later
	d.names, d.states, d.later = map[bool][]string{}, nil, nil
	s := d.placed(false, isBool, 3)
	d.names, d.states, d.later = had, states, later
	return s
}

func (d *drawer) hybrid() string {
	d.names, d.states = map[bool][]string{false: {"u", "w", "x", "y", "k", "o"}, true: {"v", "q", "r"}}, []string{"M is A", "M is B", "N is B", "N is C", "N is D"}
	l := d.lets(false)
	own := []string{"mode M {A, B};\n", "mode N {B, C, D};\n", "from M.A on " + d.placed(false, false, 2) + " goto B;\n"}
	for _, s := range []string{"x", "y"} {
		own = append(own, "der "+s+" = "+d.placed(false, false, 2)+" init "+d.constant(false)+";\n", "reset "+s+" on "+d.placed(false, false, 1)+" = "+d.placed(true, false, 5)+";\n")
	}
	for i, s := range []string{"k", "q", "o", "r"} {
		isBool := i%2 == 1
		own = append(own, "mem "+s+": "+typeOf(isBool)+" init "+d.constant(isBool)+";\n", "on "+d.placed(false, false, 1)+" set "+s+" = "+d.placed(true, isBool, 5)+";\n")
	}
	for _, s := range own {
		l = slices.Insert(l, d.below(len(l)+1), s)
	}
	return "hybrid m(u: fix, v: bool, w: fix) {\n" + strings.Join(l, "") + "}\n"
}

// text draws a text; declarations stand in any order.
func (d *drawer) text() string {
	d.callable, d.late = nil, false
	var l []string
	for range d.below(6) {
		l = slices.Insert(l, d.below(len(l)+1), d.declared())
	}
	return strings.Join(slices.Insert(l, d.below(len(l)+1), d.hybrid()), "")
}

func (d *drawer) number() int64 {
	switch d.below(8) {
	case 0:
		return pickOf(d, 0, 1, -1, one, -one, most, -most-1)
	case 1:
		return int64(d.below(1<<30)) << d.below(33)
	case 2:
		return -int64(d.below(1<<30)) << d.below(33)
	}
	return (int64(d.below(40)) - 12) * one / 4
}

func (d *drawer) bool() int64 { return int64(d.below(2)) }

// pointOf draws one that fits a program's hybrid.
func (d *drawer) pointOf(p api.Program) api.Point {
	_, h := hybridOf(p)
	var at api.Point
	of := func(typ int) int64 {
		if typ == api.TypeBool {
			return d.bool()
		}
		return d.number()
	}
	for _, x := range h.Params {
		at.In = append(at.In, of(x.Type))
	}
	for _, it := range h.Items {
		switch it.Kind {
		case api.ItDer:
			at.State = append(at.State, d.number())
		case api.ItMem:
			at.Mem = append(at.Mem, of(it.Type))
		case api.ItMode:
			at.Mode = append(at.Mode, int64(d.below(len(it.States))))
		}
	}
	return at
}

// merged is the same program, but that what is the same has one number.
func merged(p api.Program) api.Program {
	q := api.Program{Decls: slices.Clone(p.Decls)}
	to := make([]int, len(p.Exprs))
	for e, x := range p.Exprs {
		x.A, x.B, x.C, x.Args = to[x.A], to[x.B], to[x.C], slices.Clone(x.Args)
		for i, arg := range x.Args {
			x.Args[i] = to[arg]
		}
		parts := len(ast.Parts(x))
		if x.Kind == api.ExCall || parts < 3 {
			x.C = 0
		}
		if x.Kind == api.ExCall || parts < 2 {
			x.B = 0
		}
		if x.Kind == api.ExCall || parts < 1 {
			x.A = 0
		}
		to[e] = slices.IndexFunc(q.Exprs, func(y api.Expr) bool {
			return x.Kind == y.Kind && x.A == y.A && x.B == y.B && x.C == y.C && x.Name == y.Name && x.State == y.State && x.V == y.V && slices.Equal(x.Args, y.Args)
		})
		if to[e] < 0 {
			q.Exprs = append(q.Exprs, x)
			to[e] = len(q.Exprs) - 1
		}
	}
	for i, d := range q.Decls {
		d.Items = slices.Clone(d.Items)
		for k, it := range d.Items {
			if it.Kind <= api.ItOn {
				d.Items[k].E = to[it.E]
			}
			if it.Kind == api.ItDer || it.Kind == api.ItReset || it.Kind == api.ItOn || it.Kind == api.ItFrom {
				d.Items[k].F = to[it.F]
			}
		}
		if d.Kind != api.DeHybrid {
			d.E = to[d.E]
		}
		q.Decls[i] = d
	}
	return q
}

// treesOf are the numbers of all that stands in a hybrid's trees.
func treesOf(p api.Program) map[int]struct{} {
	d, _ := hybridOf(p)
	trees := map[int]struct{}{}
	left := names.Roots(p, d)
	for len(left) > 0 {
		e := left[0]
		left = left[1:]
		if _, ok := trees[e]; !ok {
			trees[e] = struct{}{}
			left = append(left, ast.Parts(p.Exprs[e])...)
		}
	}
	return trees
}

// counts are what was drawn.
type counts struct{ none, cells, flags, great int }

// checkByRow asks for all of a program's expressions, at any cells.
func checkByRow(t *testing.T, d *drawer, what string, p api.Program, c *counts) {
	t.Helper()
	r, ok := Prepare(p)
	if !ok {
		t.Fatalf("%s: %v", what, check.Program(p))
	}
	own := treesOf(p)
	at := d.pointOf(p)
	if !r.Fits(at) {
		t.Errorf("%s: %v", what, at)
	}
	for e := range p.Exprs {
		if _, ok := own[e]; !ok {
			v, flags, next, ok := r.Value(at, e, nil)
			if v != 0 || flags != 0 || len(next) > 0 || ok || len(r.Cells(e)) > 0 {
				t.Errorf("%s: %d: %d, %d, %v, %v", what, e, v, flags, next, ok)
			}
			c.none++
			continue
		}
		m, reg, stored := write(p, e)
		cells := slices.Clone(m.first)
		if got := r.Cells(e); !slices.Equal(got, cells) {
			t.Errorf("%s: cells of %d: %v, wanted %v", what, e, got, cells)
		}
		for i := range cells {
			if d.below(2) == 0 {
				cells[i] = d.number()
			}
		}
		want, wantNext, wantFlags := m.run(at, cells, reg, stored)
		v, flags, next, ok := r.Value(at, e, cells)
		if !ok || v != want || flags != wantFlags || !slices.Equal(next, wantNext) {
			t.Errorf("%s: %d: %d, %d, %v, %v, wanted %d, %d, %v", what, e, v, flags, next, ok, want, wantFlags, wantNext)
		}
		if _, _, _, ok := r.Value(at, e, append(cells, 0)); ok {
			t.Errorf("%s: %d: too many cells", what, e)
		}
		if len(cells) > 0 {
			c.cells++
			if _, _, _, ok := r.Value(at, e, cells[1:]); ok {
				t.Errorf("%s: %d: too few cells", what, e)
			}
		}
		if flags != 0 {
			c.flags++
		}
		c.great = max(c.great, len(cells))
	}
}

// checkBySteps asks for the hybrid's own expressions, from their first cells on, step by step.
func checkBySteps(t *testing.T, d *drawer, what string, p api.Program) {
	t.Helper()
	const steps = 6
	r, _ := Prepare(p)
	number, _ := hybridOf(p)
	var points []api.Point
	for range steps {
		points = append(points, d.pointOf(p))
	}
	s := &streams{p, points, map[when]int64{}}
	in := &where{d: number, inside: map[int]*where{}}
	all := types.All(p, number)
	own, roots := treesOf(p), names.Roots(p, number)
	for e := range p.Exprs {
		if _, ok := own[e]; !ok || d.below(4) > 0 && !slices.Contains(roots, e) {
			continue
		}
		cells := r.Cells(e)
		if kinds.Sort(p, e) == 1 && len(cells) > 0 {
			t.Errorf("%s: %d has cells: %v", what, e, cells)
		}
		for step, at := range points {
			v, flags, next, ok := r.Value(at, e, cells)
			want, wantFlags := s.of(in, e, step), s.flags(in, e, step, map[when]struct{}{})
			if !ok || v != want || flags != wantFlags || len(next) != len(cells) {
				t.Errorf("%s: %d, step %d: %d, %d, %v, wanted %d, %d", what, e, step, v, flags, ok, want, wantFlags)
			}
			if all[e] == api.TypeBool && v != 0 && v != 1 {
				t.Errorf("%s: %d, step %d: a bool is %d", what, e, step, v)
			}
			cells = next
		}
	}
}

// checkConstants asks for constants, of which there are as many as ders and mems.
func checkConstants(t *testing.T, what string, p api.Program) {
	t.Helper()
	r, _ := Prepare(p)
	_, h := hybridOf(p)
	constant := map[int]struct{}{}
	for _, it := range h.Items {
		switch it.Kind {
		case api.ItDer:
			constant[it.F] = struct{}{}
		case api.ItMem:
			constant[it.E] = struct{}{}
		}
	}
	for e := range p.Exprs {
		v, flags := r.Const(e)
		if _, ok := constant[e]; !ok {
			if v != 0 || flags != 0 {
				t.Errorf("%s: %d is no constant: %d, %d", what, e, v, flags)
			}
			continue
		}
		m, reg, stored := write(p, e)
		want, _, wantFlags := m.run(api.Point{}, nil, reg, stored)
		if v != want || flags != wantFlags {
			t.Errorf("%s: %d: %d, %d, wanted %d, %d", what, e, v, flags, want, wantFlags)
		}
	}
}

// Programs drawn are as both models have them, also where the same numbers stand everywhere.
func TestDrawn(t *testing.T) { // P14.1, P14.2, P14.3, P14.4, P14.5
	d := &drawer{state: 14}
	var c counts
	right := 0
	for range 200 {
		s := d.text()
		p, fault := check.Text(s)
		if fault.Code == api.ErrRoom || fault.Code == api.ErrDepth {
			continue
		}
		if fault != (api.Fault{}) {
			t.Fatalf("%s\n%s", s, check.Say(s, fault))
		}
		right++
		one := merged(p)
		if !ast.SameAll(p, one) {
			t.Fatalf("%s is merged to something else", s)
		}
		for _, q := range []api.Program{p, one} {
			checkByRow(t, d, s, q, &c)
			checkBySteps(t, d, s, q)
			checkConstants(t, s, q)
		}
		if t.Failed() {
			t.FailNow()
		}
	}
	if right < 150 || c.none < 100 || c.cells < 1000 || c.flags < 1000 || c.great < 30 {
		t.Error(right, c)
	}
	t.Log(right, c)
}

// changed is a program some of whose numbers, names and kinds are others.
func (d *drawer) changed(p api.Program) api.Program {
	q := merged(p)
	for range 1 + d.below(2) {
		e := d.below(len(q.Exprs))
		x := &q.Exprs[e]
		parts := []*int{&x.A, &x.B, &x.C}[:min(len(ast.Parts(*x)), 3)]
		if x.Kind == api.ExCall {
			parts = nil
			for i := range x.Args {
				parts = append(parts, &x.Args[i])
			}
		}
		switch d.below(8) {
		case 0:
			x.Name = pickOf(d, "a", "b", "u", "x", "l0", "d0", "d1", "M")
		case 1:
			x.Kind = 1 + d.below(21)
		case 2:
			x.V = int64(d.below(3))
		case 3:
			d.changeItem(&q)
		default:
			if len(parts) > 0 && e > 0 {
				*parts[d.below(len(parts))] = d.below(e)
			}
		}
	}
	return q
}

// changeItem lets an item have another expression, or gives a declaration another one's item.
func (d *drawer) changeItem(q *api.Program) {
	h := &q.Decls[d.below(len(q.Decls))]
	_, m := hybridOf(*q)
	if d.below(3) == 0 {
		h.Items = append(slices.Clone(h.Items), pickOf(d, m.Items...))
		return
	}
	if len(h.Items) == 0 {
		return
	}
	it := &h.Items[d.below(len(h.Items))]
	if it.Kind != api.ItMode && it.Kind != api.ItFrom && it.Kind != api.ItOut {
		it.E = d.below(len(q.Exprs))
	}
}

// Programs that no text has are as the first model has them, or have faults, and nothing else then.
func TestChanged(t *testing.T) { // P14.1, P14.2, P14.3, rule 1
	d := &drawer{state: 41}
	var c counts
	right, faults := 0, 0
	for range 60 {
		p, fault := check.Text(d.text())
		if fault != (api.Fault{}) {
			continue
		}
		at := d.pointOf(p)
		for range 20 {
			q := d.changed(p)
			if len(check.Program(q)) == 0 {
				right++
				checkByRow(t, d, "changed", q, &c)
				checkConstants(t, "changed", q)
				continue
			}
			faults++
			e := d.below(len(q.Exprs))
			checkNone(t, "changed", q, at, e, nil)
			checkConst(t, "changed", q, e, 0, 0)
			checkCells(t, "changed", q, e)
			checkFits(t, "changed", q, at, false)
		}
	}
	if right < 100 || faults < 100 {
		t.Error(right, faults)
	}
	t.Log(right, faults, c)
}
