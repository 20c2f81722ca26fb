package check

import (
	"slices"
	"strconv"
	"strings"
	"testing"

	"astrolabe/api"
	"astrolabe/calls"
	"astrolabe/caus"
	"astrolabe/inits"
	"astrolabe/kinds"
	"astrolabe/names"
	"astrolabe/parse"
	"astrolabe/show"
	"astrolabe/types"
)

// modelFaults are a text's faults as the chapter has them.
func modelFaults(s string) []api.Fault {
	p, fault := parse.Parse(s)
	if fault.Code != api.OK {
		return []api.Fault{fault}
	}
	all := slices.Concat(names.Faults(p), types.Faults(p), kinds.Faults(p), calls.Faults(p), caus.Faults(p), inits.Faults(p))
	if len(all) > 0 {
		return slices.DeleteFunc(all, func(f api.Fault) bool { return f.Code != all[0].Code })
	}
	for d, x := range p.Decls {
		if x.Kind == api.DeHybrid && calls.Size(p, d) > 4000 {
			return []api.Fault{{Code: api.ErrRoom, At: x.At}}
		}
	}
	return nil
}

// isRight tells whether a text is right by all layers.
func isRight(s string) bool {
	p, fault := parse.Parse(s)
	if fault.Code != api.OK || !names.Right(p) || !types.Right(p) || !kinds.Right(p) || !calls.Right(p) || !caus.Right(p) || !inits.Right(p) {
		return false
	}
	hybrid := slices.IndexFunc(p.Decls, func(d api.Decl) bool { return d.Kind == 3 })
	return calls.Size(p, hybrid) <= 4000
}

// drawer draws texts: the same ones each time. Of a thousand expressions some are wild: what may be a fault, of that code.
type drawer struct {
	state    uint64
	wild     map[api.Errno]int
	names    map[bool][]string // what there is in the declaration that is drawn, bools and fixes
	modes    []string
	lets     map[bool][]string // its lets that come later
	decl     int               // which one is drawn
	count    int               // how many may be called
	nodes    map[int]bool      // which declarations are nodes
	discrete bool
	late     bool // whether what is drawn may be late
}

func (d *drawer) below(n int) int {
	d.state = d.state*6364136223846793005 + 1442695040888963407
	return int(d.state>>33) % n
}

func pick[T any](d *drawer, l ...T) T { return l[d.below(len(l))] }

func (d *drawer) isWild(code api.Errno) bool { return d.below(1000) < d.wild[code] }

// atom draws what has no parts.
func (d *drawer) atom(isBool bool) string {
	if d.isWild(api.ErrType) {
		isBool = !isBool
	}
	l := d.names[isBool]
	if d.isWild(api.ErrName) {
		return "nobody"
	}
	if later := d.lets[isBool]; len(later) > 0 && d.isWild(api.ErrCause) {
		return pick(d, later...)
	}
	switch {
	case len(l) > 0 && d.below(3) > 0:
		return pick(d, l...)
	case isBool && len(d.modes) > 0 && d.below(2) == 0:
		return pick(d, d.modes...) + " is A"
	case isBool:
		return pick(d, "true", "false")
	}
	return pick(d, "0", "1", "2.5", "0.125", "100")
}

// call draws one of a declaration that comes earlier, if it isn't wild.
func (d *drawer) call(deep int) string {
	count := d.decl
	if d.isWild(api.ErrRecurse) {
		count = d.count
	}
	if count == 0 {
		return d.atom(false)
	}
	called := d.below(count)
	if d.nodes[called] && !d.discrete && !d.isWild(api.ErrKind) {
		return d.atom(false)
	}
	return "d" + strconv.Itoa(called) + "(" + d.inTime(false, deep) + ", " + d.inTime(true, deep) + ")"
}

// inTime draws what mustn't be late.
func (d *drawer) inTime(isBool bool, deep int) string {
	late := d.late
	d.late = d.isWild(api.ErrInit)
	s := d.expr(isBool, deep)
	d.late = late
	return s
}

// delayed draws what has a memory: lets that come later may be asked for there.
func (d *drawer) delayed(isBool bool, deep int) string {
	if !d.discrete && !d.isWild(api.ErrKind) {
		return d.atom(isBool)
	}
	part := func() string { return d.inTime(isBool, deep) }
	pre := "pre (" + part() + ")"
	if l := d.lets[isBool]; len(l) > 0 && d.below(2) == 0 {
		return "(" + part() + " fby " + pick(d, l...) + ")"
	}
	switch d.below(4) {
	case 0:
		return "(" + part() + " fby " + part() + ")"
	case 1:
		return "(" + part() + " -> " + part() + ")"
	case 2:
		if d.late {
			return pre
		}
	}
	return "(" + part() + " -> " + pre + ")"
}

func (d *drawer) expr(isBool bool, deep int) string {
	part := func(isBool bool) string { return d.expr(isBool, deep-1) }
	if deep == 0 || d.below(4) == 0 {
		return d.atom(isBool)
	}
	k := d.below(6)
	switch {
	case k == 0:
		return "(if " + part(true) + " then " + part(isBool) + " else " + part(isBool) + ")"
	case k < 3:
		return d.delayed(isBool, deep-1)
	case isBool && k == 3:
		return "not " + part(true)
	case isBool && k == 4:
		return "(" + part(true) + pick(d, " and ", " or ", " == ") + part(true) + ")"
	case isBool:
		return "(" + part(false) + pick(d, " < ", " <= ", " == ") + part(false) + ")"
	case k == 3:
		return d.call(deep - 1)
	case k == 4:
		return pick(d, "-", "sqrt ") + part(false)
	}
	return "(" + part(false) + pick(d, " + ", " - ", " * ", "/") + part(false) + ")"
}

// place draws an expression, of that place.
func (d *drawer) place(discrete, isBool bool) string {
	d.discrete = discrete
	s := d.inTime(isBool, 3)
	d.discrete = false
	return s
}

// let draws one: those that it may ask for are d.names by then.
func (d *drawer) let(name string, discrete, isBool bool) string {
	typ := map[bool]string{false: "fix", true: "bool"}[isBool != d.isWild(api.ErrType)]
	s := "let " + name + ": " + typ + " = " + d.place(discrete, isBool) + ";\n"
	d.lets[isBool] = slices.DeleteFunc(d.lets[isBool], func(s string) bool { return s == name })
	d.names[isBool] = append(d.names[isBool], name)
	return s
}

// letsOf draws lets, in any order.
func (d *drawer) letsOf(discrete bool) []string {
	d.lets = map[bool][]string{}
	var kinds []bool
	for i := range d.below(4) {
		isBool := d.below(3) == 0
		kinds = append(kinds, isBool)
		d.lets[isBool] = append(d.lets[isBool], "l"+strconv.Itoa(i))
	}
	var l []string
	for i, isBool := range kinds {
		s := d.let("l"+strconv.Itoa(i), discrete, isBool)
		l = slices.Insert(l, d.below(len(l)+1), s)
	}
	return l
}

// called draws a fun or a node.
func (d *drawer) called() string {
	d.names, d.modes = map[bool][]string{false: {"a"}, true: {"b"}}, nil
	head := "d" + strconv.Itoa(d.decl) + "(a: fix, b: bool): fix "
	if !d.nodes[d.decl] {
		d.lets = map[bool][]string{}
		return "fun " + head + "= " + d.place(false, false) + ";\n"
	}
	lets := d.letsOf(true)
	return "node " + head + "{\n" + strings.Join(lets, "") + "return " + d.place(true, false) + ";\n}\n"
}

// constant draws what may stand in a constant place.
func (d *drawer) constant(isBool bool) string {
	had, modes, lets := d.names, d.modes, d.lets
	d.names, d.modes, d.lets = map[bool][]string{}, nil, nil
	if d.isWild(api.ErrKind) {
		d.names = had
	}
	s := d.place(false, isBool)
	d.names, d.modes, d.lets = had, modes, lets
	return s
}

func (d *drawer) hybrid() string {
	d.names, d.modes = map[bool][]string{false: {"u", "x", "k"}, true: {"v", "q"}}, []string{"M"}
	l := d.letsOf(false)
	own := []string{
		"der x = " + d.place(false, false) + " init " + d.constant(false) + ";\n", "mem k: fix init " + d.constant(false) + ";\n", "mem q: bool init " + d.constant(true) + ";\n", "mode M {A, B};\n",
		"reset x on " + d.place(false, false) + " = " + d.place(true, false) + ";\n", "on " + d.place(false, false) + " set k = " + d.place(true, false) + ";\n", "on " + d.place(false, false) + " set q = " + d.place(true, true) + ";\n",
		"from M.A on " + d.place(false, false) + " goto B;\n", "out x;\n", "out k;\n",
	}
	for _, s := range own {
		l = slices.Insert(l, d.below(len(l)+1), s)
	}
	return "hybrid m(u: fix, v: bool) {\n" + strings.Join(l, "") + "}\n"
}

// text draws a text, wild of so many codes. Declarations that are called stand in any order.
func (d *drawer) text(codes int) string {
	d.wild, d.nodes, d.late = map[api.Errno]int{}, map[int]bool{}, false
	for range codes {
		code := pick(d, api.ErrName, api.ErrType, api.ErrKind, api.ErrRecurse, api.ErrCause, api.ErrInit)
		d.wild[code] = pick(d, 20, 100, 400)
	}
	var l []string
	d.count = d.below(6)
	for i := range d.count {
		d.nodes[i] = d.below(2) == 0
	}
	for d.decl = range d.count {
		l = slices.Insert(l, d.below(len(l)+1), d.called())
	}
	d.decl = d.count
	l = slices.Insert(l, d.below(len(l)+1), d.hybrid())
	return strings.Join(l, "")
}

// changed is a text with some of its bytes changed, lost or doubled.
func (d *drawer) changed(s string) string {
	b := []byte(s)
	for range 1 + d.below(3) {
		at := d.below(len(b))
		switch d.below(3) {
		case 0:
			b[at] = pick(d, []byte("ab(){};:=+-1 @\n\x00\xff.")...)
		case 1:
			b = slices.Delete(b, at, at+1)
		case 2:
			b = slices.Insert(b, at, b[d.below(len(b))])
		}
	}
	return string(b)
}

// checkDrawn asks for all that there is of a drawn text; it is the code of its fault.
func checkDrawn(t *testing.T, s string) api.Errno {
	t.Helper()
	checkText(t, s, modelFaults(s)...)
	checkForm(t, s)
	_, fault := Text(s)
	if (fault.Code == api.OK) != isRight(s) {
		t.Errorf("%q: %v", s, fault)
	}
	if form, wrong := show.Form(s); fault.Code == api.OK && (wrong != api.Fault{} || !isRight(form)) {
		t.Errorf("%q: %v, %v, %q", s, fault, wrong, form)
	}
	return fault.Code
}

// Texts drawn have the faults of the first layer that has some; what has none is right by all layers, and written so, too.
func TestDrawn(t *testing.T) { // P13.1, P13.2, P13.3
	d := &drawer{state: 13}
	told := map[api.Errno]int{}
	for i := range 900 {
		s := d.text([]int{0, 1, 1, 1, 2, 4}[i%6])
		code := checkDrawn(t, s)
		told[code]++
		if _, ok := d.wild[code]; !ok && code != api.OK {
			t.Errorf("%q: %v, wild of %v", s, code, d.wild)
		}
		if i%3 == 0 {
			told[checkDrawn(t, d.changed(s))]++
		}
		if t.Failed() {
			t.FailNow()
		}
	}
	for code := range api.ErrRoom {
		if told[code] < 10 && code != api.ErrDepth {
			t.Errorf("of %d there were %d", code, told[code])
		}
	}
	t.Log(told)
}

// Any bytes have faults, or none, and no text is beyond it.
func TestAnyBytes(t *testing.T) { // P13.1, rule 1
	d := &drawer{state: 14}
	for i := range 2000 {
		b := make([]byte, d.below(40))
		for k := range b {
			b[k] = byte(d.below(256))
			if i%2 == 0 {
				b[k] = pick(d, []byte("hybrid m() {}fun x:=;1#\n")...)
			}
		}
		s := string(b)
		l := Faults(s)
		p, fault := Text(s)
		if len(l) == 0 || l[0] != fault || len(p.Decls)+len(p.Exprs) > 0 || fault.At < 0 || fault.At > len(s) || fault.Code < api.ErrLex || fault.Code > api.ErrName {
			t.Errorf("%q: %v, %v", s, l, fault)
		}
	}
}
