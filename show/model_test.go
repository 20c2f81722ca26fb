package show

import (
	"regexp"
	"strconv"
	"strings"

	"astrolabe/api"
	"astrolabe/dec"
)

// The model: what each kind's own text is, with what is wanted of each part behind its letter, and how tight it binds, as the chapter has it.

type row struct {
	tight int
	text  string
}

var rows = map[int]row{
	api.ExIf:    {0, "if A0 then B0 else C0"},
	api.ExArrow: {0, "A1 -> B0"},
	api.ExFby:   {0, "A1 fby B0"},
	api.ExOr:    {1, "A1 or B2"},
	api.ExAnd:   {2, "A2 and B3"},
	api.ExLess:  {3, "A4 < B4"},
	api.ExMost:  {3, "A4 <= B4"},
	api.ExSame:  {3, "A4 == B4"},
	api.ExAdd:   {4, "A4 + B5"},
	api.ExSub:   {4, "A4 - B5"},
	api.ExMul:   {5, "A5 * B6"},
	api.ExDiv:   {5, "A5 / B6"},
	api.ExNeg:   {6, "-A6"},
	api.ExNot:   {6, "not A6"},
	api.ExPre:   {6, "pre A6"},
	api.ExSqrt:  {6, "sqrt A6"},
}

var part = regexp.MustCompile(`[ABC][0-6]`)

// model writes a program as the model has it; more tells where brackets stand that nothing wants.
type model struct {
	p    api.Program
	more func() bool
}

func (m model) expr(e, wanted int) string {
	x := m.p.Exprs[e]
	tight, text := 7, ""
	switch r, ok := rows[x.Kind]; {
	case ok:
		tight = r.tight
		text = part.ReplaceAllStringFunc(r.text, func(s string) string {
			return m.expr(map[byte]int{'A': x.A, 'B': x.B, 'C': x.C}[s[0]], int(s[1]-'0'))
		})
	case x.Kind == api.ExFix:
		text = dec.Print(x.V)
	case x.Kind == api.ExBool:
		text = strconv.FormatBool(x.V == 1)
	case x.Kind == api.ExName:
		text = x.Name
	case x.Kind == api.ExIs:
		text = x.Name + " is " + x.State
	case x.Kind == api.ExCall:
		var args []string
		for _, a := range x.Args {
			args = append(args, m.expr(a, 0))
		}
		text = x.Name + "(" + strings.Join(args, ", ") + ")"
	}
	if tight < wanted || m.more() {
		text = "(" + text + ")"
	}
	return text
}

// itemRows are items' texts: N, T, S, X, L stand for Name, Type, State, Next, States.
var itemRows = map[int]string{
	api.ItLet:   "let N: T = E;",
	api.ItDer:   "der N = E init F;",
	api.ItReset: "reset N on F = E;",
	api.ItMem:   "mem N: T init E;",
	api.ItOn:    "on F set N = E;",
	api.ItMode:  "mode N {L};",
	api.ItFrom:  "from N.S on F goto X;",
	api.ItOut:   "out N;",
}

var declRows = map[int]string{
	api.DeFun:    "fun N(P): T = E;\n",
	api.DeNode:   "node N(P): T {\nI  return E;\n}\n",
	api.DeHybrid: "hybrid N(P) {\nI}\n",
}

var field = regexp.MustCompile(`[A-Z]`)

func fill(row string, fields map[string]func() string) string {
	return field.ReplaceAllStringFunc(row, func(s string) string { return fields[s]() })
}

func modelType(t int) string {
	if s, ok := map[int]string{1: "fix", 2: "bool"}[t]; ok {
		return s
	}
	return "?"
}

func (m model) item(it api.Item) string {
	return fill(itemRows[it.Kind], map[string]func() string{
		"N": func() string { return it.Name },
		"T": func() string { return modelType(it.Type) },
		"S": func() string { return it.State },
		"X": func() string { return it.Next },
		"L": func() string { return strings.Join(it.States, ", ") },
		"E": func() string { return m.expr(it.E, 0) },
		"F": func() string { return m.expr(it.F, 0) },
	})
}

func (m model) decl(d api.Decl) string {
	return fill(declRows[d.Kind], map[string]func() string{
		"N": func() string { return d.Name },
		"T": func() string { return modelType(d.Type) },
		"E": func() string { return m.expr(d.E, 0) },
		"P": func() string {
			var l []string
			for _, p := range d.Params {
				l = append(l, p.Name+": "+modelType(p.Type))
			}
			return strings.Join(l, ", ")
		},
		"I": func() string {
			s := ""
			for _, it := range d.Items {
				s += "  " + m.item(it) + "\n"
			}
			return s
		},
	})
}

func (m model) program() string {
	s := ""
	for _, d := range m.p.Decls {
		s += m.decl(d)
	}
	return s
}

func never() bool { return false }

// drawer draws programs: the same ones each time.
type drawer struct {
	p     api.Program
	state uint64
}

func (d *drawer) below(n int) int {
	d.state = d.state*6364136223846793005 + 1442695040888963407
	return int(d.state>>33) % n
}

func (d *drawer) name() string {
	return []string{"x", "y", "f", "G_1", "_", "ifx", "abcdefghijklmnop"}[d.below(7)]
}

// number draws small ones and great ones, with much behind the point and with nothing.
func (d *drawer) number() int64 {
	bits := d.state
	d.below(2)
	return int64((bits ^ d.state<<30) << d.below(60) >> (1 + d.below(62)))
}

// expr draws an expression so deep at most, and puts it behind its parts.
func (d *drawer) expr(deep int) int {
	kind := []int{api.ExFix, api.ExBool, api.ExName, api.ExIs, api.ExCall}[d.below(5)]
	if deep > 1 && d.below(6) > 0 {
		kind = api.ExNeg + d.below(api.ExSqrt-api.ExNeg+1)
	}
	x := api.Expr{Kind: kind, At: d.below(50)}
	text := rows[kind].text
	switch kind {
	case api.ExFix:
		x.V = d.number()
	case api.ExBool:
		x.V = int64(d.below(2))
	case api.ExName:
		x.Name = d.name()
	case api.ExIs:
		x.Name, x.State = d.name(), d.name()
	case api.ExCall:
		x.Name = d.name()
		for range d.below(4) * min(deep-1, 1) {
			x.Args = append(x.Args, d.expr(deep-1))
		}
	default:
		for letter, at := range map[string]*int{"A": &x.A, "B": &x.B, "C": &x.C} {
			if strings.Contains(text, letter) {
				*at = -1
			}
		}
		for _, at := range []*int{&x.A, &x.B, &x.C} {
			if *at < 0 {
				*at = d.expr(deep - 1)
			}
		}
	}
	d.p.Exprs = append(d.p.Exprs, x)
	return len(d.p.Exprs) - 1
}

func (d *drawer) item(kind int) api.Item {
	it := api.Item{Kind: kind, Name: d.name(), At: d.below(50)}
	row := itemRows[kind]
	if strings.Contains(row, "T") {
		it.Type = 1 + d.below(2)
	}
	if strings.Contains(row, "E") {
		it.E = d.expr(1 + d.below(7))
	}
	if strings.Contains(row, "F") {
		it.F = d.expr(1 + d.below(7))
	}
	if strings.Contains(row, "S") {
		it.State, it.Next = d.name(), d.name()
	}
	if strings.Contains(row, "L") {
		for range 1 + d.below(3) {
			it.States = append(it.States, d.name())
		}
	}
	return it
}

func (d *drawer) decl() api.Decl {
	x := api.Decl{Kind: 1 + d.below(3), Name: d.name(), At: d.below(50)}
	for range d.below(4) {
		x.Params = append(x.Params, api.Param{Name: d.name(), Type: 1 + d.below(2)})
	}
	if x.Kind != api.DeFun {
		for range d.below(6) {
			kind := api.ItLet
			if x.Kind == api.DeHybrid {
				kind = 1 + d.below(8)
			}
			x.Items = append(x.Items, d.item(kind))
		}
	}
	if x.Kind != api.DeHybrid {
		x.Type = 1 + d.below(2)
		x.E = d.expr(1 + d.below(8))
	}
	return x
}

func (d *drawer) program(decls int) api.Program {
	d.p = api.Program{}
	var l []api.Decl
	for range decls {
		l = append(l, d.decl())
	}
	d.p.Decls = l
	return d.p
}
