package vm

import (
	"slices"
	"strings"
	"testing"

	"astrolabe/api"
	"astrolabe/check"
	"astrolabe/eval"
	"astrolabe/lower"
)

func (d *drawer) word(l ...string) string { return l[d.below(len(l))] }

// bool and fix draw expressions; those of discrete places have cells.
func (d *drawer) bool(deep int, discrete bool) string {
	n := d.below(6)
	switch {
	case deep == 0 || n == 0:
		return d.word("true", "b", "q", "M is A", "M is C")
	case n == 1:
		return "not " + d.bool(deep-1, discrete)
	case n == 2:
		return "(" + d.bool(deep-1, discrete) + d.word(" and ", " or ") + d.bool(deep-1, discrete) + ")"
	case n == 3 && discrete:
		return "(" + d.bool(deep-1, true) + d.word(" fby ", " -> ") + d.bool(deep-1, true) + ")"
	}
	return "(" + d.fix(deep-1, discrete) + d.word(" < ", " <= ", " == ") + d.fix(deep-1, discrete) + ")"
}

func (d *drawer) fix(deep int, discrete bool) string {
	n := d.below(7)
	switch {
	case deep == 0 || n == 0:
		return d.word("u", "x", "y", "k", "1", "0.5", "2147483647", "s(u)")
	case n == 1:
		return d.word("-", "sqrt ") + d.fix(deep-1, discrete)
	case n == 2:
		return "(if " + d.bool(deep-1, discrete) + " then " + d.fix(deep-1, discrete) + " else " + d.fix(deep-1, discrete) + ")"
	case n == 3 && discrete:
		return "(" + d.fix(deep-1, true) + d.word(" fby ", " -> ", " -> pre ") + d.fix(deep-1, true) + ")"
	case n == 4 && discrete:
		return "t(" + d.fix(deep-1, true) + ")"
	}
	return "(" + d.fix(deep-1, discrete) + d.word(" + ", " - ", " * ", " / ") + d.fix(deep-1, discrete) + ")"
}

// text draws a hybrid that is right: two ders, two mems, a mode, then one crossing each: x, k, q, M.
func (d *drawer) text() string {
	on := func() string { return " on " + d.fix(3, false) }
	return "fun s(a: fix): fix = a * a; node t(a: fix): fix { let c: fix = 0 fby c + a; return c; } hybrid m(u: fix, b: bool) { " + strings.Join([]string{
		"der x = " + d.fix(3, false) + " init 1;", "der y = " + d.fix(3, false) + " init 2;",
		"mem k: fix init 3;", "mem q: bool init true;", "mode M {A, B, C};", "let l: fix = " + d.fix(3, false) + ";",
		"reset x" + on() + " = " + d.fix(4, true) + ";", "on" + on()[3:] + " set k = " + d.fix(4, true) + ";", "on" + on()[3:] + " set q = " + d.bool(4, true) + ";",
		"from M." + d.word("A", "B", "C") + on() + " goto " + d.word("A", "B", "C") + ";",
		"out k;", "out q;", "out x;", "out l;",
	}, " ") + " }"
}

// evaluated tells values of expressions without cells, and their flags, as layer 14 has them.
func evaluated(t *testing.T, r *eval.Ready, at api.Point, l ...int) ([]int64, int) {
	t.Helper()
	var values []int64
	all := 0
	for _, e := range l {
		v, flags, _, ok := r.Value(at, e, nil)
		if !ok {
			t.Fatal("no value of", e)
		}
		values, all = append(values, v), all|flags
	}
	return values, all
}

func checkSmooth(t *testing.T, do smooth, at over, want []int64, flags int) {
	t.Helper()
	if v, f, e := do(at.in, at.state, at.mem); !slices.Equal(v, want) || f != flags || e != api.OK {
		t.Fatalf("%v %d %v, wanted %v %d", v, f, e, want, flags)
	}
}

// checkDiscrete holds a step against what layer 14 says of each expression of what was raised.
func checkDiscrete(t *testing.T, m *Machine, r *eval.Ready, items []api.Item, point api.Point, at over) {
	t.Helper()
	state, mem, flags := slices.Clone(at.state), slices.Clone(at.mem), 0
	places := []*int64{&state[0], &mem[0], &mem[1]}
	cell := 3
	for i, it := range items[6:9] {
		n := len(r.Cells(it.E))
		v, f, next, ok := r.Value(point, it.E, at.mem[cell:cell+n])
		if !ok {
			t.Fatal("no value of", it)
		}
		if at.raised[i] {
			*places[i] = v
			copy(mem[cell:], next)
			flags |= f
		}
		cell += n
	}
	from := items[9]
	states := items[4].States
	if at.raised[3] && states[at.mem[2]] == from.State {
		mem[2] = int64(slices.Index(states, from.Next))
	}
	s, n, f, e := m.Step(at.in, at.state, at.mem, at.raised)
	if !slices.Equal(s, state) || !slices.Equal(n, mem) || f != flags || e != api.OK {
		t.Fatalf("%v %v %d %v, wanted %v %v %d", s, n, f, e, state, mem, flags)
	}
}

// What programs are lowered to does what layer 14 says of the programs.
func TestTexts(t *testing.T) { // P18.2, P18.4
	d := &drawer{state: 3}
	cells, flagged := 0, 0
	for range 600 {
		s := d.text()
		p, fault := check.Text(s)
		if fault.Code == api.ErrDepth {
			continue
		}
		o, lowered := lower.Object(p)
		r, ok := eval.Prepare(p)
		if fault.Code != api.OK || lowered.Code != api.OK || !ok {
			t.Fatal(s, check.Say(s, fault), lowered)
		}
		m := made(t, o)
		items := p.Decls[2].Items
		for range 4 {
			at := d.over(o)
			at.in[1], at.mem[1], at.mem[2] = int64(d.below(2)), int64(d.below(2)), int64(d.below(3))
			point := api.Point{In: at.in, State: at.state, Mem: at.mem[:2], Mode: at.mem[2:3]}
			slopes, flags := evaluated(t, r, point, items[0].E, items[1].E)
			checkSmooth(t, m.Deriv, at, slopes, flags)
			zeros, flags := evaluated(t, r, point, items[6].F, items[7].F, items[8].F, items[9].F)
			checkSmooth(t, m.Zero, at, zeros, flags)
			l, flags := evaluated(t, r, point, items[5].E)
			checkSmooth(t, m.At, at, []int64{at.mem[0], at.mem[1], at.state[0], l[0]}, flags)
			checkDiscrete(t, m, r, items, point, at)
			cells, flagged = cells+len(o.Mem)-3, flagged+flags
		}
	}
	if cells < 1000 || flagged < 200 {
		t.Error(cells, flagged)
	}
}
