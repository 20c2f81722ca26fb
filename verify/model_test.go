package verify

import (
	"math"
	"strings"

	"astrolabe/api"
)

// The model: the chapter's sentences, one behind the other.

func among(n, low, high int) bool { return low <= n && n <= high }

func isRegister(n int) bool { return among(n, 0, 3999) }

func oneOf[T any](n int, l []T) bool { return among(n, 0, len(l)-1) }

func pieceOf(o api.Object, piece int) []api.Ins {
	switch piece {
	case 0:
		return o.Deriv
	case 1:
		return o.Zero
	case 2:
		return o.Step
	}
	return o.At
}

// modelRegisters tells which numbers of an instruction are registers: D, A, B, C.
func modelRegisters(op int) [4]bool {
	return [4]bool{among(op, 1, 18), among(op, 6, 22), among(op, 9, 18), op == api.InPick}
}

// modelHas tells which numbers an instruction has: D, A, B, C.
func modelHas(op int) [4]bool {
	return [4]bool{op != api.InSkip, op != api.InConst, !(among(op, 1, 8) || among(op, 20, 22)), op == api.InPick}
}

func modelPut(o api.Object, piece, d int) bool {
	switch piece {
	case 0:
		return oneOf(d, o.State)
	case 1:
		return among(d, 0, o.Cross-1)
	case 3:
		return oneOf(d, o.Out)
	}
	return false
}

func modelPlace(o api.Object, piece, number int, x api.Ins) bool {
	switch x.Op {
	case api.InIn:
		return oneOf(x.A, o.In)
	case api.InState:
		return oneOf(x.A, o.State)
	case api.InMem:
		return oneOf(x.A, o.Mem)
	case api.InCross:
		return piece == 2 && among(x.A, 0, o.Cross-1)
	case api.InStore:
		return piece == 2 && oneOf(x.D, o.Mem)
	case api.InSet:
		return piece == 2 && oneOf(x.D, o.State)
	case api.InPut:
		return modelPut(o, piece, x.D)
	case api.InSkip:
		return piece == 2 && among(x.B, 0, len(o.Step[number+1:]))
	}
	return true
}

func modelIns(o api.Object, piece, number int) bool {
	x := pieceOf(o, piece)[number]
	if !among(x.Op, 1, 22) {
		return false
	}
	numbers := [4]int{x.D, x.A, x.B, x.C}
	for i, n := range numbers {
		if modelRegisters(x.Op)[i] && !isRegister(n) || !modelHas(x.Op)[i] && n != 0 {
			return false
		}
	}
	return modelPlace(o, piece, number, x) && (x.V == 0 || x.Op == api.InConst)
}

func modelWrong(o api.Object) (int, int, bool) {
	for piece := range 4 {
		for i := range pieceOf(o, piece) {
			if !modelIns(o, piece, i) {
				return piece, i, true
			}
		}
	}
	return 0, 0, false
}

func modelRight(o api.Object) bool {
	for _, l := range [][]int{o.In, o.Out} {
		for _, t := range l {
			if t != 1 && t != 2 {
				return false
			}
		}
		if len(l) > 200 {
			return false
		}
	}
	if len(o.State) > 200 || len(o.Mem) > 200 || !among(o.Cross, 0, 200) || !among(o.Flags, 0, 3) {
		return false
	}
	for piece := range 4 {
		if len(pieceOf(o, piece)) > 4000 {
			return false
		}
	}
	_, _, wrong := modelWrong(o)
	return !wrong
}

func modelCount(l []api.Ins) int {
	greatest := -1
	for _, x := range l {
		for i, n := range [4]int{x.D, x.A, x.B, x.C} {
			if modelRegisters(x.Op)[i] && n > greatest {
				greatest = n
			}
		}
	}
	return greatest + 1
}

// drawer draws objects and texts: the same ones each time.
type drawer struct{ state uint64 }

func (d *drawer) below(n int) int {
	d.state = d.state*6364136223846793005 + 1442695040888963407
	return int(d.state>>33) % n
}

func (d *drawer) word(l ...string) string { return l[d.below(len(l))] }

// place draws a number that may be one of so many, or, now and then, another one.
func (d *drawer) place(n int) int {
	if d.below(60) > 0 && n > 0 {
		return d.below(n)
	}
	l := [...]int{n, n - 1, n + 1, 0, -1, -2, 1, 3999, 4000, math.MaxInt - 1, math.MinInt}
	return l[d.below(len(l))]
}

// ins draws an instruction that is likely right; what it hasn't is 0, but now and then.
func (d *drawer) ins(o api.Object, piece, behind int) api.Ins {
	op := 1 + d.below(22)
	for piece != 2 && (op == 5 || op == 19 || op > 20) && d.below(40) > 0 || piece == 2 && op == 20 && d.below(40) > 0 {
		op = 1 + d.below(22)
	}
	x := api.Ins{Op: op}
	numbers := [4]*int{&x.D, &x.A, &x.B, &x.C}
	for i, is := range modelRegisters(op) {
		if is || d.below(200) == 0 {
			*numbers[i] = d.place(4000)
		}
	}
	switch op {
	case api.InConst:
		x.V = int64(d.below(9)) - 4
	case api.InIn:
		x.A = d.place(len(o.In))
	case api.InState:
		x.A = d.place(len(o.State))
	case api.InMem:
		x.A = d.place(len(o.Mem))
	case api.InCross:
		x.A = d.place(o.Cross)
	case api.InSkip:
		x.B = d.place(behind + 1)
	case api.InPut:
		x.D = d.place([]int{len(o.State), o.Cross, 1, len(o.Out)}[piece])
	case api.InStore:
		x.D = d.place(len(o.Mem))
	case api.InSet:
		x.D = d.place(len(o.State))
	}
	if d.below(300) == 0 {
		x.V = 1
	}
	if d.below(300) == 0 {
		x.Op = d.below(27) - 2
	}
	return x
}

func (d *drawer) types() []int {
	l := make([]int, d.below(4))
	for i := range l {
		l[i] = 1 + d.below(2)
	}
	if len(l) > 0 && d.below(60) == 0 {
		l[d.below(len(l))] = d.below(5) - 1
	}
	return l
}

// object draws one with few in its lists.
func (d *drawer) object(most int) api.Object {
	o := api.Object{In: d.types(), Out: d.types(), State: make([]int64, d.below(4)), Mem: make([]int64, d.below(4)), Cross: d.below(4), Flags: d.below(4)}
	if d.below(60) == 0 {
		o.Flags = d.below(9) - 3
	}
	if d.below(60) == 0 {
		o.Cross = -d.below(3)
	}
	for i, piece := range []*[]api.Ins{&o.Deriv, &o.Zero, &o.Step, &o.At} {
		n := d.below(most)
		for k := range n {
			*piece = append(*piece, d.ins(o, i, n-1-k))
		}
	}
	return o
}

// bool and fix draw expressions of texts; those of discrete places have cells.
func (d *drawer) bool(deep int, discrete bool) string {
	if deep == 0 {
		return d.word("true", "false", "b", "q", "M is A", "M is C")
	}
	switch n := d.below(5); {
	case n == 0:
		return "not (" + d.bool(deep-1, discrete) + ")"
	case n == 1:
		return "(" + d.fix(deep-1, discrete) + d.word(" < ", " <= ", " == ") + d.fix(deep-1, discrete) + ")"
	case n == 2 && discrete:
		return "(" + d.bool(deep-1, true) + d.word(" fby ", " -> ") + d.bool(deep-1, true) + ")"
	case n == 3:
		return d.bool(0, discrete)
	}
	return "(" + d.bool(deep-1, discrete) + d.word(" and ", " or ") + d.bool(deep-1, discrete) + ")"
}

func (d *drawer) fix(deep int, discrete bool) string {
	if deep == 0 {
		return d.word("u", "x", "y", "k", "ll", "1", "0.5", "f(u)")
	}
	a := d.fix(deep-1, discrete)
	switch n := d.below(8); {
	case n == 0:
		return d.word("-", "sqrt ") + "(" + a + ")"
	case n == 1:
		return "(if " + d.bool(deep-1, discrete) + " then " + a + " else " + d.fix(deep-1, discrete) + ")"
	case n == 2:
		return "f(" + a + ")"
	case n == 3 && discrete:
		return d.word("n", "w") + "(" + a + ")"
	case n == 4 && discrete:
		return "(" + d.fix(deep-1, true) + d.word(" fby ", " -> ", " -> pre ") + a + ")"
	}
	return "(" + a + d.word(" + ", " - ", " * ", " / ") + d.fix(deep-1, discrete) + ")"
}

// text draws a program that is right.
func (d *drawer) text(deep int) string {
	items := []string{
		"der x = " + d.fix(deep, false) + " init 1 / 0;", "der y = " + d.fix(deep, false) + " init -2;",
		"mem k: fix init 2147483647 + 1;", "mem q: bool init 1 < 2;", "mode M {A, B, C};",
		"let ll: fix = " + strings.ReplaceAll(d.fix(deep, false), "ll", "x") + ";",
	}
	for range d.below(6) {
		when := " on " + d.fix(deep, false)
		items = append(items, d.word(
			"reset "+d.word("x", "y")+when+" = "+d.fix(deep, true)+";", "on"+when[3:]+" set k = "+d.fix(deep, true)+";",
			"on"+when[3:]+" set q = "+d.bool(deep, true)+";", "from M."+d.word("A", "B", "C")+when+" goto "+d.word("A", "B", "C")+";"))
	}
	for range d.below(4) {
		items = append(items, "out "+d.word("x", "y", "k", "q", "ll")+";")
	}
	return "fun f(a: fix): fix = a * a + 1; node n(a: fix): fix { let c: fix = 0 fby c + a; return c; } node w(a: fix): fix { return n(n(a)) -> pre a; } hybrid m(u: fix, b: bool) { " +
		strings.Join(items, " ") + " }"
}
