package parse

import (
	"strconv"
	"strings"

	"astrolabe/api"
	"astrolabe/dec"
)

// writer writes a text by the grammar, drawn at random, and lays beside it the program that it is.
type writer struct {
	b     strings.Builder
	p     api.Program
	state uint64
	most  int // how deep its exprs may be
	left  int // how much more they may have than need be
}

// more tells, once of n times, that there is more.
func (w *writer) more(n int) bool {
	if w.left == 0 || w.draw(n) > 0 {
		return false
	}
	w.left--
	return true
}

func (w *writer) draw(n int) int {
	w.state = w.state*6364136223846793005 + 1442695040888963407
	return int(w.state>>33) % n
}

// put writes tokens, gaps ahead of them, and is where the last one stands.
func (w *writer) put(texts ...string) int {
	at := 0
	for _, text := range texts {
		gap := []string{" ", "  ", "\n", "\t", "\r\n", " # let ( \xff\n"}[max(w.draw(30)-24, 0)]
		if strings.Contains("(),;{}", text) && w.draw(2) == 0 {
			gap = ""
		}
		w.b.WriteString(gap)
		at = w.b.Len()
		w.b.WriteString(text)
	}
	return at
}

func (w *writer) name() string {
	return []string{"x", "y", "f", "G_1", "_", "ifx", "abcdefghijklmnop"}[w.draw(7)]
}

func (w *writer) putName() (string, int) {
	name := w.name()
	return name, w.put(name)
}

func (w *writer) expr(x api.Expr) int {
	w.p.Exprs = append(w.p.Exprs, x)
	return len(w.p.Exprs) - 1
}

func (w *writer) anyExpr(deep int) int {
	if deep < w.most-1 && w.more(8) {
		x := api.Expr{Kind: api.ExIf, At: w.put("if")}
		x.A = w.anyExpr(deep + 1)
		w.put("then")
		x.B = w.anyExpr(deep + 1)
		w.put("else")
		x.C = w.anyExpr(deep + 1)
		return w.expr(x)
	}
	e := w.level(0, deep)
	if deep < w.most-1 && w.more(5) {
		return w.pair(e, map[string]int{"->": api.ExArrow, "fby": api.ExFby}, func() int { return w.anyExpr(deep + 1) })
	}
	return e
}

// pair writes one of the signs and a second part.
func (w *writer) pair(a int, signs map[string]int, second func() int) int {
	all := "-> fby or and < <= == + - * /"
	for {
		sign := strings.Fields(all)[w.draw(11)]
		if kind, ok := signs[sign]; ok {
			x := api.Expr{Kind: kind, A: a, At: w.put(sign)}
			x.B = second()
			return w.expr(x)
		}
	}
}

func (w *writer) level(level, deep int) int {
	if level == 5 {
		return w.prefix(deep + 1)
	}
	signs := []map[string]int{{"or": api.ExOr}, {"and": api.ExAnd}, {"<": api.ExLess, "<=": api.ExMost, "==": api.ExSame}, {"+": api.ExAdd, "-": api.ExSub}, {"*": api.ExMul, "/": api.ExDiv}}
	next := func() int { return w.level(level+1, deep) }
	e := next()
	for w.more(6) {
		e = w.pair(e, signs[level], next)
		if level == 2 {
			break
		}
	}
	return e
}

func (w *writer) prefix(deep int) int {
	if deep < w.most && w.more(3) {
		i := w.draw(4)
		x := api.Expr{Kind: []int{api.ExNeg, api.ExNot, api.ExPre, api.ExSqrt}[i], At: w.put([]string{"-", "not", "pre", "sqrt"}[i])}
		x.A = w.prefix(deep + 1)
		return w.expr(x)
	}
	return w.atom(deep)
}

func (w *writer) atom(deep int) int {
	n := 5
	if deep+2 <= w.most && w.more(2) {
		n = 8
	}
	switch w.draw(n) {
	case 0:
		text := strconv.Itoa(w.draw(1000)) + []string{"", ".25", ".1"}[w.draw(3)]
		v, _ := dec.Parse(text)
		return w.expr(api.Expr{Kind: api.ExFix, V: v, At: w.put(text)})
	case 1:
		v := w.draw(2)
		return w.expr(api.Expr{Kind: api.ExBool, V: int64(v), At: w.put([]string{"false", "true"}[v])})
	case 2:
		x := api.Expr{Kind: api.ExIs}
		x.Name, x.At = w.putName()
		w.put("is")
		x.State, _ = w.putName()
		return w.expr(x)
	case 3, 4:
		x := api.Expr{Kind: api.ExName}
		x.Name, x.At = w.putName()
		return w.expr(x)
	case 5, 6:
		x := api.Expr{Kind: api.ExCall}
		x.Name, x.At = w.putName()
		w.put("(")
		w.some(w.draw(4), func() { x.Args = append(x.Args, w.anyExpr(deep+1)) })
		w.put(")")
		return w.expr(x)
	}
	w.put("(")
	e := w.anyExpr(deep + 1)
	w.put(")")
	return e
}

// some writes n with commas between.
func (w *writer) some(n int, one func()) {
	for i := range n {
		if i > 0 {
			w.put(",")
		}
		one()
	}
}

func (w *writer) putType() int {
	t := w.draw(2)
	w.put([]string{"fix", "bool"}[t])
	return []int{api.TypeFix, api.TypeBool}[t]
}

func (w *writer) params() []api.Param {
	var l []api.Param
	w.put("(")
	w.some(w.draw(4), func() {
		name, _ := w.putName()
		w.put(":")
		l = append(l, api.Param{Name: name, Type: w.putType()})
	})
	w.put(")")
	return l
}

func (w *writer) exprBehind(texts ...string) int {
	w.put(texts...)
	w.left = w.draw(50)
	return w.anyExpr(1)
}

func (w *writer) item(kind int) api.Item {
	it := api.Item{Kind: kind, At: w.put([]string{"", "let", "der", "reset", "mem", "on", "mode", "from", "out"}[kind])}
	if kind != api.ItOn {
		it.Name, _ = w.putName()
	}
	switch kind {
	case api.ItLet, api.ItMem:
		w.put(":")
		it.Type = w.putType()
		it.E = w.exprBehind(map[int]string{api.ItLet: "=", api.ItMem: "init"}[kind])
	case api.ItDer:
		it.E = w.exprBehind("=")
		it.F = w.exprBehind("init")
	case api.ItReset:
		it.F = w.exprBehind("on")
		it.E = w.exprBehind("=")
	case api.ItOn:
		it.F = w.exprBehind()
		w.put("set")
		it.Name, _ = w.putName()
		it.E = w.exprBehind("=")
	case api.ItMode:
		w.put("{")
		w.some(1+w.draw(4), func() {
			state, _ := w.putName()
			it.States = append(it.States, state)
		})
		w.put("}")
	case api.ItFrom:
		w.put(".")
		it.State, _ = w.putName()
		it.F = w.exprBehind("on")
		w.put("goto")
		it.Next, _ = w.putName()
	}
	w.put(";")
	return it
}

func (w *writer) decl(kind int) api.Decl {
	d := api.Decl{Kind: kind, At: w.put([]string{"", "fun", "node", "hybrid"}[kind])}
	d.Name, _ = w.putName()
	d.Params = w.params()
	if kind != api.DeHybrid {
		w.put(":")
		d.Type = w.putType()
	}
	if kind == api.DeFun {
		d.E = w.exprBehind("=")
		w.put(";")
		return d
	}
	w.put("{")
	for range w.draw(6) {
		item := api.ItLet
		if kind == api.DeHybrid {
			item = 1 + w.draw(8)
		}
		d.Items = append(d.Items, w.item(item))
	}
	if kind == api.DeNode {
		d.E = w.exprBehind("return")
		w.put(";")
	}
	w.put("}")
	return d
}

func (w *writer) program(decls int) {
	for range decls {
		d := w.decl(1 + w.draw(3))
		w.p.Decls = append(w.p.Decls, d)
	}
}
