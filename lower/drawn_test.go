package lower

import (
	"slices"
	"strconv"
	"strings"
	"testing"

	"astrolabe/api"
	"astrolabe/ast"
	"astrolabe/check"
	"astrolabe/eval"
)

// drawer draws texts without faults, and banks: the same ones each time.
type drawer struct {
	state    uint64
	names    map[bool][]string // what there is in the declaration that is drawn, bools and fixes
	states   []string
	later    map[bool][]string // its lets that come later
	callable []callable
	discrete bool // whether what is drawn may have a memory
	late     bool // whether it may be late
}

// callable is a declaration that is drawn: those behind it may call it.
type callable struct{ node, isBool bool }

func (d *drawer) below(n int) int {
	d.state = d.state*6364136223846793005 + 1442695040888963407
	return int(d.state>>33) % n
}

func pickOf[T any](d *drawer, l ...T) T { return l[d.below(len(l))] }

func (d *drawer) atom(isBool bool) string {
	l := d.names[isBool]
	switch {
	case len(l) > 0 && d.below(4) > 0:
		return pickOf(d, l...)
	case isBool && len(d.states) > 0 && d.below(2) == 0:
		return pickOf(d, d.states...)
	case isBool:
		return pickOf(d, "true", "false")
	}
	return pickOf(d, "0", "1", "2.5", "0.125", "100", "2147483647", "0.0000000003")
}

func (d *drawer) call(isBool bool, deep int) string {
	for range 4 {
		if len(d.callable) == 0 {
			break
		}
		i := d.below(len(d.callable))
		c := d.callable[i]
		if c.isBool == isBool && (d.discrete || !c.node) {
			return "d" + strconv.Itoa(i) + "(" + d.inTime(false, deep) + ", " + d.inTime(true, deep) + ")"
		}
	}
	return d.atom(isBool)
}

// inTime draws what mustn't be late.
func (d *drawer) inTime(isBool bool, deep int) string {
	late := d.late
	d.late = false
	s := d.expr(isBool, deep)
	d.late = late
	return s
}

// delayed draws what has a memory: lets that come later may be asked for there.
func (d *drawer) delayed(isBool bool, deep int) string {
	if !d.discrete {
		return d.atom(isBool)
	}
	part := func() string { return d.inTime(isBool, deep) }
	behind := func() string {
		late := d.late
		d.late = true
		s := d.expr(isBool, deep)
		d.late = late
		return s
	}
	k := d.below(5)
	l := d.later[isBool]
	switch {
	case k == 0 && len(l) > 0:
		return "(" + part() + " -> pre " + pickOf(d, l...) + ")"
	case k < 2 && len(l) > 0:
		return "(" + part() + " fby " + pickOf(d, l...) + ")"
	case k < 2:
		return "(" + part() + " fby " + part() + ")"
	case k == 2 && d.late:
		return "pre (" + part() + ")"
	case k == 3:
		return "(" + part() + " -> " + behind() + ")"
	}
	return "(" + part() + " -> pre (" + part() + "))"
}

func (d *drawer) expr(isBool bool, deep int) string {
	part := func(isBool bool) string { return d.expr(isBool, deep-1) }
	if deep == 0 || d.below(6) == 0 {
		return d.atom(isBool)
	}
	k := d.below(8)
	switch {
	case k == 0:
		return "(if " + part(true) + " then " + part(isBool) + " else " + part(isBool) + ")"
	case k < 3:
		return d.delayed(isBool, deep-1)
	case k < 5:
		return d.call(isBool, deep-1)
	case isBool && k == 5:
		return "not " + part(true)
	case isBool && k == 6:
		return "(" + part(true) + pickOf(d, " and ", " or ", " == ") + part(true) + ")"
	case isBool:
		return "(" + part(false) + pickOf(d, " < ", " <= ", " == ") + part(false) + ")"
	case k == 5:
		return pickOf(d, "-", "sqrt ") + part(false)
	}
	return "(" + part(false) + pickOf(d, " + ", " - ", " * ", " / ") + part(false) + ")"
}

// placed draws an expression of a place.
func (d *drawer) placed(discrete, isBool bool, deep int) string {
	d.discrete = discrete
	s := d.inTime(isBool, deep)
	d.discrete = false
	return s
}

func typeOf(isBool bool) string {
	if isBool {
		return "bool"
	}
	return "fix"
}

// lets draws lets, in any order: those that come earlier may be asked for at once.
func (d *drawer) lets(discrete bool) []string {
	d.later = map[bool][]string{}
	var drawn []bool
	for i := range d.below(5) {
		isBool := d.below(3) == 0
		drawn = append(drawn, isBool)
		d.later[isBool] = append(d.later[isBool], "l"+strconv.Itoa(i))
	}
	var l []string
	for i, isBool := range drawn {
		name := "l" + strconv.Itoa(i)
		s := "let " + name + ": " + typeOf(isBool) + " = " + d.placed(discrete, isBool, 3) + ";\n"
		l = slices.Insert(l, d.below(len(l)+1), s)
		d.later[isBool] = slices.DeleteFunc(d.later[isBool], func(s string) bool { return s == name })
		d.names[isBool] = append(d.names[isBool], name)
	}
	return l
}

// declared draws a fun or a node.
func (d *drawer) declared() string {
	c := callable{d.below(3) > 0, d.below(3) == 0}
	d.names, d.states = map[bool][]string{false: {"a"}, true: {"b"}}, nil
	head := "d" + strconv.Itoa(len(d.callable)) + "(a: fix, b: bool): " + typeOf(c.isBool) + " "
	s := "fun " + head + "= "
	if c.node {
		s = "node " + head + "{\n" + strings.Join(d.lets(true), "") + "return "
		s += d.placed(true, c.isBool, 3) + ";\n}\n"
	} else {
		d.later = nil
		s += d.placed(false, c.isBool, 3) + ";\n"
	}
	d.callable = append(d.callable, c)
	return s
}

func (d *drawer) constant(isBool bool) string {
	had, states, later := d.names, d.states, d.later
	d.names, d.states, d.later = map[bool][]string{}, nil, nil
	s := d.placed(false, isBool, 3)
	d.names, d.states, d.later = had, states, later
	return s
}

// hybrid draws one with some of its items several times, in any order.
func (d *drawer) hybrid() string {
	d.names, d.states = map[bool][]string{false: {"u", "w", "x", "y", "k", "o"}, true: {"v", "q", "r"}}, []string{"M is A", "M is B", "N is B", "N is C", "N is D"}
	l := d.lets(false)
	told := []string{"x", "y", "k", "o", "q", "r"}
	for _, s := range append(slices.Clone(d.names[false][6:]), d.names[true][3:]...) {
		told = append(told, s, s)
	}
	own := []string{"mode M {A, B};\n", "mode N {B, C, D};\n"}
	for _, s := range []string{"x", "y"} {
		own = append(own, "der "+s+" = "+d.placed(false, false, 3)+" init "+d.constant(false)+";\n")
	}
	for i, s := range []string{"k", "q", "o", "r"} {
		own = append(own, "mem "+s+": "+typeOf(i%2 == 1)+" init "+d.constant(i%2 == 1)+";\n")
	}
	for range d.below(9) {
		on := " on " + d.placed(false, false, 2)
		switch d.below(4) {
		case 0:
			own = append(own, "reset "+pickOf(d, "x", "y")+on+" = "+d.placed(true, false, 4)+";\n")
		case 1:
			own = append(own, "from M."+pickOf(d, "A", "B")+on+" goto "+pickOf(d, "A", "B")+";\n")
		case 2:
			own = append(own, "from N."+pickOf(d, "B", "C", "D")+on+" goto "+pickOf(d, "B", "C", "D")+";\n")
		default:
			isBool := d.below(2) == 0
			name := pickOf(d, "k", "o")
			if isBool {
				name = pickOf(d, "q", "r")
			}
			own = append(own, on[1:]+" set "+name+" = "+d.placed(true, isBool, 4)+";\n")
		}
	}
	for range d.below(8) {
		own = append(own, "out "+pickOf(d, told...)+";\n")
	}
	for _, s := range own {
		l = slices.Insert(l, d.below(len(l)+1), s)
	}
	return "hybrid m(u: fix, v: bool, w: fix) {\n" + strings.Join(l, "") + "}\n"
}

// text draws a text; declarations stand in any order.
func (d *drawer) text() string {
	d.callable, d.late = nil, false
	var l []string
	for range d.below(6) {
		l = slices.Insert(l, d.below(len(l)+1), d.declared())
	}
	return strings.Join(slices.Insert(l, d.below(len(l)+1), d.hybrid()), "")
}

func (d *drawer) number() int64 {
	const most = 1<<63 - 1
	switch d.below(8) {
	case 0:
		return pickOf(d, 0, 1, -1, one, -one, most, -most-1)
	case 1:
		return int64(d.below(1<<30)) << d.below(33)
	case 2:
		return -int64(d.below(1<<30)) << d.below(33)
	}
	return (int64(d.below(40)) - 12) * one / 4
}

// banksOf draws what an object may be over: in its cells any numbers.
func (d *drawer) banksOf(q program) banks {
	var at banks
	of := func(typ int) int64 {
		if typ == api.TypeBool {
			return int64(d.below(2))
		}
		return d.number()
	}
	for _, x := range q.p.Decls[q.h.d].Params {
		at.in = append(at.in, of(x.Type))
	}
	for range q.h.all(api.ItDer) {
		at.state = append(at.state, d.number())
	}
	for _, it := range q.h.all(api.ItMem) {
		at.mem = append(at.mem, of(it.Type))
	}
	for _, it := range q.h.all(api.ItMode) {
		at.mem = append(at.mem, int64(d.below(len(it.States))))
	}
	for _, it := range q.p.Decls[q.h.d].Items {
		if it.Kind != api.ItReset && it.Kind != api.ItOn {
			continue
		}
		for _, c := range q.ready.Cells(it.E) {
			at.mem = append(at.mem, pickOf(d, c, 0, 1, d.number()))
		}
	}
	return at
}

// sameObject tells whether two objects are the same all through.
func sameObject(a, b api.Object) bool {
	return slices.Equal(a.In, b.In) && slices.Equal(a.Out, b.Out) && slices.Equal(a.State, b.State) && slices.Equal(a.Mem, b.Mem) && a.Cross == b.Cross && a.Flags == b.Flags &&
		slices.Equal(a.Deriv, b.Deriv) && slices.Equal(a.Zero, b.Zero) && slices.Equal(a.Step, b.Step) && slices.Equal(a.At, b.At)
}

// checkRegisters holds a piece against what follows: registers are made once, from 0 on, ahead of what asks for them, and not over which one may go to where it is asked for.
func checkRegisters(t *testing.T, what string, l []api.Ins) {
	t.Helper()
	type made struct{ at, to int } // to where what goes over it goes
	var registers []made
	ends := []int{len(l)}
	for i, in := range l {
		for ends[len(ends)-1] <= i {
			ends = ends[:len(ends)-1]
		}
		has := ""
		if in.Op > 0 && in.Op < len(shapes) {
			has = shapes[in.Op].has
		}
		if has == "" || strings.Contains(told(in), "!") {
			t.Errorf("%s: %d: %v", what, i, in)
		}
		asked := []int{}
		switch {
		case in.Op > api.InCross && in.Op < api.InSkip:
			asked = []int{in.A, in.B, in.C}[:len(has)-1]
		case in.Op >= api.InSkip:
			asked = []int{in.A}
		}
		for _, r := range asked {
			if r < 0 || r >= len(registers) || registers[r].to <= i {
				t.Errorf("%s: %d: %v asks for %d", what, i, in, r)
			}
		}
		if in.Op < api.InSkip {
			if in.D != len(registers) {
				t.Errorf("%s: %d: %v", what, i, in)
			}
			registers = append(registers, made{i, ends[len(ends)-1]})
		}
		if in.Op == api.InSkip {
			if in.B < 1 || i+1+in.B > ends[len(ends)-1] {
				t.Errorf("%s: %d: %v", what, i, in)
			}
			ends = append(ends, i+1+in.B)
		}
	}
}

// checkPlaces holds an object against what may be, but for registers.
func checkPlaces(t *testing.T, what string, o api.Object) {
	t.Helper()
	within := func(place, n int) bool { return place >= 0 && place < n }
	puts := map[int]int{0: len(o.State), 1: o.Cross, 3: len(o.Out)}
	for piece, l := range [][]api.Ins{o.Deriv, o.Zero, o.Step, o.At} {
		put := 0
		for i, in := range l {
			right := true
			switch in.Op {
			case api.InIn:
				right = within(in.A, len(o.In))
			case api.InState:
				right = within(in.A, len(o.State))
			case api.InMem:
				right = within(in.A, len(o.Mem))
			case api.InCross:
				right = within(in.A, o.Cross) && piece == 2
			case api.InPut:
				right = in.D == put && piece != 2
				put++
			case api.InStore:
				right = within(in.D, len(o.Mem)) && piece == 2
			case api.InSet:
				right = within(in.D, len(o.State)) && piece == 2
			case api.InSkip:
				right = piece == 2
			}
			if !right {
				t.Errorf("%s: piece %d, %d: %v", what, piece, i, in)
			}
		}
		if put != puts[piece] {
			t.Errorf("%s: piece %d puts %d", what, piece, put)
		}
	}
}

// checkDone does an object's pieces over some banks: they make what layer 14 says of the program.
func checkDone(t *testing.T, d *drawer, what string, p api.Program, o api.Object) {
	t.Helper()
	ready, _ := eval.Prepare(p)
	q := program{p, ready, hybridScope(p)}
	var ders, zeros []int
	for _, it := range p.Decls[q.h.d].Items {
		switch it.Kind {
		case api.ItDer:
			ders = append(ders, it.E)
		case api.ItReset, api.ItOn, api.ItFrom:
			zeros = append(zeros, it.F)
		}
	}
	for range 3 {
		at := d.banksOf(q)
		for i, l := range [][]int{ders, zeros} {
			piece := [][]api.Ins{o.Deriv, o.Zero}[i]
			want, flags := q.values(t, at, l)
			m := run(piece, at, nil, len(want))
			if !slices.Equal(m.puts, want) || m.flags != flags {
				t.Errorf("%s: piece %d: %v, %d, wanted %v, %d", what, i, m.puts, m.flags, want, flags)
			}
		}
		checkOuts(t, what, q, o, at)
		raised := make([]bool, o.Cross)
		for i := range raised {
			raised[i] = d.below(2) == 0
		}
		m := run(o.Step, at, raised, 0)
		want, flags := q.step(t, at, raised), q.stepFlags(at, raised)
		if !slices.Equal(m.nextState, want.state) || !slices.Equal(m.stored, want.mem) || m.flags != flags {
			t.Errorf("%s: step of %v: %v, %v, %d, wanted %v, %d", what, raised, m.nextState, m.stored, m.flags, want, flags)
		}
	}
}

// checkOuts does At: it makes what outs name.
func checkOuts(t *testing.T, what string, q program, o api.Object, at banks) {
	t.Helper()
	m := run(o.At, at, nil, len(o.Out))
	flags := 0
	for i, it := range q.h.all(api.ItOut) {
		name := func(l api.Item) bool { return l.Name == it.Name }
		var want int64
		if lets := q.h.all(api.ItLet); slices.ContainsFunc(lets, name) {
			v, f := q.values(t, at, []int{lets[slices.IndexFunc(lets, name)].E})
			want, flags = v[0], flags|f
		} else if ders := q.h.all(api.ItDer); slices.ContainsFunc(ders, name) {
			want = at.state[slices.IndexFunc(ders, name)]
		} else {
			want = at.mem[slices.IndexFunc(q.h.all(api.ItMem), name)]
		}
		if m.puts[i] != want {
			t.Errorf("%s: out %d: %d, wanted %d", what, i, m.puts[i], want)
		}
	}
	if m.flags != flags {
		t.Errorf("%s: outs have the flags %d, wanted %d", what, m.flags, flags)
	}
}

// checkObject asks for a program's object, and tells whether there is one.
func checkObject(t *testing.T, d *drawer, what string, p api.Program) bool {
	t.Helper()
	want := modelObject(p)
	o, fault := Object(p)
	much := max(len(want.In), len(want.Out), len(want.State), len(want.Mem), want.Cross) > api.MaxBank || max(len(want.Deriv), len(want.Zero), len(want.Step), len(want.At)) > api.MaxCode
	if much {
		at := p.Decls[hybridScope(p).d].At
		if fault != (api.Fault{Code: api.ErrRoom, At: at}) || !sameObject(o, api.Object{}) {
			t.Errorf("%s: too much: %v, %v", what, fault, o)
		}
		return false
	}
	if fault != (api.Fault{}) || !sameObject(o, want) {
		t.Errorf("%s: %v\n%v\n%s, wanted\n%v\n%s", what, fault, o, Text(o), want, Text(want))
		return false
	}
	for _, l := range [][]api.Ins{o.Deriv, o.Zero, o.Step, o.At} {
		checkRegisters(t, what, l)
	}
	checkPlaces(t, what, o)
	checkDone(t, d, what, p, o)
	return true
}

// merged is the same program, but that what is the same has one number.
func merged(p api.Program) api.Program {
	q := api.Program{Decls: slices.Clone(p.Decls)}
	to := make([]int, len(p.Exprs))
	for e, x := range p.Exprs {
		parts := len(ast.Parts(x))
		if x.Kind == api.ExCall {
			parts = 0
		}
		abc := [...]int{x.A, x.B, x.C}
		for i, part := range abc {
			abc[i] = to[part]
			if i >= parts {
				abc[i] = 0
			}
		}
		x.A, x.B, x.C, x.Args = abc[0], abc[1], abc[2], slices.Clone(x.Args)
		for i, arg := range x.Args {
			x.Args[i] = to[arg]
		}
		to[e] = slices.IndexFunc(q.Exprs, func(y api.Expr) bool {
			return x.Kind == y.Kind && x.A == y.A && x.B == y.B && x.C == y.C && x.Name == y.Name && x.State == y.State && x.V == y.V && slices.Equal(x.Args, y.Args)
		})
		if to[e] < 0 {
			q.Exprs = append(q.Exprs, x)
			to[e] = len(q.Exprs) - 1
		}
	}
	for i, d := range q.Decls {
		d.Items = slices.Clone(d.Items)
		for k, it := range d.Items {
			if it.Kind <= api.ItOn {
				d.Items[k].E = to[it.E]
			}
			if it.Kind == api.ItDer || it.Kind == api.ItReset || it.Kind == api.ItOn || it.Kind == api.ItFrom {
				d.Items[k].F = to[it.F]
			}
		}
		if d.Kind != api.DeHybrid {
			d.E = to[d.E]
		}
		q.Decls[i] = d
	}
	return q
}

// Programs drawn have the model's objects, which do what the programs do; also where the same numbers stand everywhere.
func TestDrawn(t *testing.T) { // P15.1, P15.3
	d := &drawer{state: 15}
	right, much, cells := 0, 0, 0
	for range 400 {
		s := d.text()
		p, fault := check.Text(s)
		if fault.Code == api.ErrRoom || fault.Code == api.ErrDepth {
			continue
		}
		if fault != (api.Fault{}) {
			t.Fatalf("%s\n%s", s, check.Say(s, fault))
		}
		for _, q := range []api.Program{p, merged(p)} {
			if checkObject(t, d, s, q) {
				right++
				o, _ := Object(q)
				cells = max(cells, len(o.Mem))
			} else {
				much++
			}
		}
		if t.Failed() {
			t.FailNow()
		}
	}
	if right < 400 || much < 2 || cells < 100 {
		t.Error(right, much, cells)
	}
	t.Log(right, much, cells)
}

// changed is a program some of whose numbers, names and kinds are others.
func (d *drawer) changed(p api.Program) api.Program {
	q := merged(p)
	for range 1 + d.below(2) {
		e := d.below(len(q.Exprs))
		x := &q.Exprs[e]
		parts := []*int{&x.A, &x.B, &x.C}[:min(len(ast.Parts(*x)), 3)]
		if x.Kind == api.ExCall {
			parts = nil
			for i := range x.Args {
				parts = append(parts, &x.Args[i])
			}
		}
		switch d.below(8) {
		case 0:
			x.Name = pickOf(d, "a", "b", "u", "x", "l0", "d0", "d1", "M")
		case 1:
			x.Kind = 1 + d.below(21)
		case 2:
			x.V = int64(d.below(3))
		case 3:
			d.changeItem(&q)
		default:
			if len(parts) > 0 && e > 0 {
				*parts[d.below(len(parts))] = d.below(e)
			}
		}
	}
	return q
}

// changeItem lets an item have another expression, or gives a declaration one of the hybrid's items.
func (d *drawer) changeItem(q *api.Program) {
	h := &q.Decls[d.below(len(q.Decls))]
	if d.below(2) == 0 {
		h.Items = append(slices.Clone(h.Items), pickOf(d, q.Decls[hybridScope(*q).d].Items...))
		return
	}
	if len(h.Items) == 0 {
		return
	}
	it := &h.Items[d.below(len(h.Items))]
	if it.Kind != api.ItMode && it.Kind != api.ItFrom && it.Kind != api.ItOut {
		it.E = d.below(len(q.Exprs))
	}
}

// Programs that no text has have the model's objects, or their first fault.
func TestChanged(t *testing.T) { // P15.1, P15.3, rule 1
	d := &drawer{state: 51}
	right, faults := 0, 0
	for range 60 {
		p, fault := check.Text(d.text())
		if fault != (api.Fault{}) {
			continue
		}
		for range 20 {
			q := d.changed(p)
			if l := check.Program(q); len(l) > 0 {
				checkFault(t, "changed", q, l[0])
				faults++
				continue
			}
			if checkObject(t, d, "changed", q) {
				right++
			}
		}
		if t.Failed() {
			t.FailNow()
		}
	}
	if right < 100 || faults < 100 {
		t.Error(right, faults)
	}
	t.Log(right, faults)
}
