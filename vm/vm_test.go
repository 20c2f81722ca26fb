package vm

import (
	"slices"
	"testing"

	"astrolabe/api"
	"astrolabe/check"
	"astrolabe/code"
	"astrolabe/lower"
)

// object is what a right text is lowered to.
func object(t *testing.T, text string) api.Object {
	t.Helper()
	p, fault := check.Text(text)
	if fault.Code != api.OK {
		t.Fatalf("%s: %v", text, fault)
	}
	o, fault := lower.Object(p)
	if fault.Code != api.OK {
		t.Fatalf("%s: %v", text, fault)
	}
	return o
}

func TestExample(t *testing.T) { // P18.1, P18.2, P18.3
	m := made(t, object(t, "hybrid m(u: fix) { der x = x + u init 0; }"))
	if m.Done() != 0 {
		t.Error(m.Done())
	}
	if v, flags, e := m.Deriv([]int64{one}, []int64{2 * one}, nil); !slices.Equal(v, []int64{3 * one}) || flags != 0 || e != api.OK {
		t.Error(v, flags, e)
	}
	if m.Done() != 4 {
		t.Error(m.Done())
	}
}

// three is code that makes a, b and c in the registers 0, 1 and 2, and what x makes of them in 3.
func three(x api.Ins, a, b, c int64) []api.Ins {
	x.D = 3
	return []api.Ins{{Op: api.InConst, V: a}, {Op: api.InConst, D: 1, V: b}, {Op: api.InConst, D: 2, V: c}, x}
}

// checkThree holds what an instruction makes of registers, in each piece, against what it should.
func checkThree(t *testing.T, x api.Ins, a, b, c, want int64, flags int) {
	t.Helper()
	l := three(x, a, b, c)
	put := append(slices.Clone(l), api.Ins{Op: api.InPut, A: 3})
	step := append(slices.Clone(l), api.Ins{Op: api.InStore, A: 3}, api.Ins{Op: api.InSet, A: 3})
	m := made(t, api.Object{State: []int64{9}, Mem: []int64{9}, Out: []int{1}, Cross: 1, Deriv: put, Zero: put, Step: step, At: put})
	state, mem := []int64{9}, []int64{9}
	for i, do := range []smooth{m.Deriv, m.Zero, m.At} {
		if v, f, e := do(nil, state, mem); !slices.Equal(v, []int64{want}) || f != flags || e != api.OK {
			t.Errorf("%d: %v of %d, %d, %d: %v %d %v, wanted %d %d", i, x, a, b, c, v, f, e, want, flags)
		}
	}
	s, n, f, e := m.Step(nil, state, mem, []bool{false})
	if !slices.Equal(s, []int64{want}) || !slices.Equal(n, []int64{want}) || f != flags || e != api.OK {
		t.Errorf("step: %v of %d, %d, %d: %v %v %d %v, wanted %d %d", x, a, b, c, s, n, f, e, want, flags)
	}
	if m.Done() != 21 {
		t.Error(x, m.Done())
	}
}

// What is made of registers, by hand.
func TestRegisters(t *testing.T) { // P18.2
	of := func(op int) api.Ins { return api.Ins{Op: op, A: 0, B: 1} }
	alone := func(op int) api.Ins { return api.Ins{Op: op} }
	pick := api.Ins{Op: api.InPick, A: 0, B: 1, C: 2}
	for _, c := range []struct {
		x          api.Ins
		a, b, want int64
		flags      int
	}{
		{api.Ins{Op: api.InConst, V: -5}, 1, 2, -5, 0}, {api.Ins{Op: api.InConst, V: least}, 1, 2, least, 0}, {api.Ins{Op: api.InConst}, 1, 2, 0, 0},
		{alone(api.InNeg), 3, 4, -3, 0}, {alone(api.InNeg), least, 4, most, 1},
		{alone(api.InNot), 0, 1, 1, 0}, {alone(api.InNot), 1, 0, 0, 0}, {alone(api.InNot), 2, 0, 1, 0}, {alone(api.InNot), -1, 0, 1, 0}, {alone(api.InNot), one, 0, 1, 0},
		{alone(api.InSqrt), 2 * one, 0, 6074000999, 0}, {alone(api.InSqrt), -1, 0, 0, 2}, {alone(api.InSqrt), 0, 0, 0, 0},
		{of(api.InAdd), 3, 4, 7, 0}, {of(api.InAdd), most, 1, most, 1}, {of(api.InAdd), least, -1, least, 1},
		{of(api.InSub), 3, 4, -1, 0}, {of(api.InSub), least, 1, least, 1}, {of(api.InSub), 0, least, most, 1},
		{of(api.InMul), 3 * one / 2, -5 * one / 2, -15 * one / 4, 0}, {of(api.InMul), most, 2 * one, most, 1}, {of(api.InMul), 1, 1, 0, 0},
		{of(api.InDiv), 3 * one, 2 * one, 3 * one / 2, 0}, {of(api.InDiv), 1, 0, most, 2}, {of(api.InDiv), -1, 0, least, 2}, {of(api.InDiv), 0, 0, 0, 2}, {of(api.InDiv), most, 1, most, 1},
		{of(api.InLess), 3, 4, 1, 0}, {of(api.InLess), 4, 4, 0, 0}, {of(api.InLess), 5, 4, 0, 0}, {of(api.InLess), least, most, 1, 0}, {of(api.InLess), most, least, 0, 0},
		{of(api.InMost), 3, 4, 1, 0}, {of(api.InMost), 4, 4, 1, 0}, {of(api.InMost), 5, 4, 0, 0}, {of(api.InMost), least, most, 1, 0}, {of(api.InMost), most, least, 0, 0},
		{of(api.InSame), 3, 4, 0, 0}, {of(api.InSame), 4, 4, 1, 0}, {of(api.InSame), 5, 4, 0, 0}, {of(api.InSame), 0, least, 0, 0},
		{of(api.InAnd), 1, 1, 1, 0}, {of(api.InAnd), 1, 0, 0, 0}, {of(api.InAnd), 0, 1, 0, 0}, {of(api.InAnd), 0, 0, 0, 0}, {of(api.InAnd), 1, 3, 0, 0}, {of(api.InAnd), 2, 2, 0, 0}, {of(api.InAnd), -1, 1, 0, 0},
		{of(api.InOr), 1, 1, 1, 0}, {of(api.InOr), 1, 0, 1, 0}, {of(api.InOr), 0, 1, 1, 0}, {of(api.InOr), 0, 0, 0, 0}, {of(api.InOr), 2, 1, 1, 0}, {of(api.InOr), 2, 3, 0, 0}, {of(api.InOr), 2, 0, 0, 0}, {of(api.InOr), -1, one, 0, 0},
		{pick, 1, 5, 5, 0}, {pick, 0, 5, 77, 0}, {pick, 2, 5, 77, 0}, {pick, -1, 5, 77, 0}, {pick, one, 5, 77, 0}, {pick, 1, least, least, 0},
	} {
		checkThree(t, c.x, c.a, c.b, 77, c.want, c.flags)
	}
	// A register may be made of itself, and again.
	l := []api.Ins{{Op: api.InConst, D: 2, V: 3}, {Op: api.InAdd, D: 2, A: 2, B: 2}, {Op: api.InAdd, D: 2, A: 2, B: 2}, {Op: api.InPut, A: 2}}
	if v, _, _ := made(t, api.Object{State: []int64{0}, Deriv: l}).Deriv(nil, []int64{0}, nil); !slices.Equal(v, []int64{12}) {
		t.Error(v)
	}
}

// What is made of banks: the number at each place, any number.
func TestBanks(t *testing.T) { // P18.2
	in, state, mem := []int64{7, least}, []int64{-3, most, 5}, []int64{11, 0, 12, 13}
	raised := []bool{false, true, true, false, true}
	var smooths, step []api.Ins
	read := func(op, n int) {
		for i := range n {
			d := len(step) / 2
			if op != api.InCross {
				smooths = append(smooths, api.Ins{Op: op, D: d, A: i}, api.Ins{Op: api.InPut, D: d, A: d})
			}
			step = append(step, api.Ins{Op: op, D: d, A: i}, api.Ins{Op: api.InStore, D: d, A: d})
		}
	}
	read(api.InIn, 2)
	read(api.InState, 3)
	read(api.InMem, 4)
	want := []int64{7, least, -3, most, 5, 11, 0, 12, 13}
	for i, o := range []api.Object{{Zero: smooths, Cross: 9}, {At: smooths, Out: slices.Repeat([]int{1}, 9)}} {
		o.In, o.State, o.Mem = []int{1, 2}, make([]int64, 3), make([]int64, 4)
		m := made(t, o)
		if v, flags, e := []smooth{m.Zero, m.At}[i](in, state, mem); !slices.Equal(v, want) || flags != 0 || e != api.OK {
			t.Error(i, v, flags, e)
		}
	}
	// In Step, too, which crossings were raised; what is stored is not what is asked for.
	step, mem = nil, append(mem, make([]int64, 10)...)
	read(api.InIn, 2)
	read(api.InState, 3)
	read(api.InMem, 4)
	read(api.InCross, 5)
	m := made(t, api.Object{In: []int{1, 2}, State: make([]int64, 3), Mem: make([]int64, 14), Cross: 5, Step: step})
	s, n, flags, e := m.Step(in, state, mem, raised)
	if want := append(want, 0, 1, 1, 0, 1); !slices.Equal(n, want) || !slices.Equal(s, state) || flags != 0 || e != api.OK {
		t.Error(s, n, flags, e)
	}
	// Deriv has as many places as there are states.
	m = made(t, api.Object{In: []int{2}, State: make([]int64, 2), Mem: make([]int64, 1), Deriv: []api.Ins{{Op: api.InIn}, {Op: api.InPut, D: 1}, {Op: api.InState, A: 1}, {Op: api.InMem, D: 1}, {Op: api.InMul, A: 0, B: 1}, {Op: api.InPut}}})
	if v, flags, e := m.Deriv([]int64{-8}, []int64{5, 6 * one}, []int64{one / 2}); !slices.Equal(v, []int64{3 * one, -8}) || flags != 0 || e != api.OK {
		t.Error(v, flags, e)
	}
}

// What is put: 0 where nothing is, else what is put there last. It goes on behind a put.
func TestPut(t *testing.T) { // P18.2
	l := []api.Ins{{Op: api.InConst, D: 6, V: 4}, {Op: api.InPut, D: 2, A: 6}, {Op: api.InPut, A: 6}, {Op: api.InConst, D: 6, V: 5}, {Op: api.InPut, D: 2, A: 6}}
	m := made(t, api.Object{State: make([]int64, 3), Out: []int{1, 2, 1, 2}, Cross: 5, Deriv: l, Zero: l, At: l})
	state := []int64{8, 8, 8}
	for i, do := range []smooth{m.Deriv, m.Zero, m.At} {
		want := append([]int64{4, 0, 5}, make([]int64, []int{0, 2, 1}[i])...)
		if v, flags, e := do(nil, state, nil); !slices.Equal(v, want) || flags != 0 || e != api.OK {
			t.Error(i, v, flags, e)
		}
	}
	// Pieces without instructions make zeros, and a step without changes nothing.
	m = made(t, api.Object{State: []int64{3, 3}, Mem: []int64{4}, Out: []int{1}, Cross: 3, Flags: 3})
	for i, do := range []smooth{m.Deriv, m.Zero, m.At} {
		if v, flags, e := do(nil, []int64{5, 6}, []int64{7}); !slices.Equal(v, make([]int64, []int{2, 3, 1}[i])) || flags != 0 || e != api.OK {
			t.Error(i, v, flags, e)
		}
	}
	if s, n, flags, e := m.Step(nil, []int64{5, 6}, []int64{7}, make([]bool, 3)); !slices.Equal(s, []int64{5, 6}) || !slices.Equal(n, []int64{7}) || flags != 0 || e != api.OK || m.Done() != 0 {
		t.Error(s, n, flags, e, m.Done())
	}
	m = made(t, api.Object{})
	for i, do := range []smooth{m.Deriv, m.Zero, m.At} {
		if v, flags, e := do(nil, []int64{}, nil); len(v) != 0 || flags != 0 || e != api.OK {
			t.Error(i, v, flags, e)
		}
	}
	if s, n, flags, e := m.Step([]int64{}, nil, nil, []bool{}); len(s) != 0 || len(n) != 0 || flags != 0 || e != api.OK {
		t.Error(s, n, flags, e)
	}
}

// What is set and stored: beside it all is as it was at first; what is asked for behind it, too.
func TestNext(t *testing.T) { // P18.2
	m := made(t, api.Object{State: make([]int64, 3), Mem: make([]int64, 3), Step: []api.Ins{
		{Op: api.InConst, V: 50}, {Op: api.InStore, D: 1}, {Op: api.InSet, D: 2},
		{Op: api.InMem, A: 1}, {Op: api.InState, D: 1, A: 2}, {Op: api.InStore, D: 2}, {Op: api.InSet, A: 1},
		{Op: api.InConst, V: 60}, {Op: api.InSet, D: 2},
	}})
	for range 2 {
		s, n, flags, e := m.Step(nil, []int64{1, 2, 3}, []int64{4, 5, 6}, nil)
		if !slices.Equal(s, []int64{3, 2, 60}) || !slices.Equal(n, []int64{4, 50, 5}) || flags != 0 || e != api.OK {
			t.Error(s, n, flags, e)
		}
	}
	if m.Done() != 18 {
		t.Error(m.Done())
	}
}

// A skip by each number of instructions, of what is 0 and of what isn't.
func TestSkip(t *testing.T) { // P18.2, P18.3, P18.4
	for _, a := range []int64{0, 1, 2, -1, one, least} {
		for b := range 5 {
			l := []api.Ins{{Op: api.InConst, V: a}, {Op: api.InConst, D: 1, V: 9}, {Op: api.InSkip, A: 0, B: b}}
			for i := range 4 {
				l = append(l, api.Ins{Op: api.InStore, D: i, A: 1})
			}
			m := made(t, api.Object{Mem: make([]int64, 4), Step: l})
			skipped := b
			if a != 0 {
				skipped = 0
			}
			want := []int64{9, 9, 9, 9}
			clear(want[:skipped])
			_, n, _, e := m.Step(nil, nil, make([]int64, 4), nil)
			if !slices.Equal(n, want) || e != api.OK || m.Done() != int64(7-skipped) {
				t.Errorf("%d, by %d: %v %v %d", a, b, n, e, m.Done())
			}
		}
	}
	// A skip that is skipped skips nothing; one behind another goes from where it stands.
	l := []api.Ins{{Op: api.InConst, D: 1, V: 9}, {Op: api.InSkip, B: 1}, {Op: api.InSkip, B: 4}, {Op: api.InStore, A: 1}, {Op: api.InSkip, B: 1}, {Op: api.InStore, D: 1, A: 1}, {Op: api.InStore, D: 2, A: 1}}
	m := made(t, api.Object{Mem: make([]int64, 3), Step: l})
	if _, n, _, e := m.Step(nil, nil, make([]int64, 3), nil); !slices.Equal(n, []int64{9, 0, 9}) || e != api.OK || m.Done() != 5 {
		t.Error(n, e, m.Done())
	}
}

// Registers are 0 at first, in each call anew, the last one that may be, too.
func TestAtFirst(t *testing.T) { // P18.2, P18.4
	last := api.MaxCode - 1
	l := []api.Ins{{Op: api.InPut, A: last}, {Op: api.InPut, D: 1, A: 7}, {Op: api.InNot, D: 7, A: 8}, {Op: api.InAdd, D: last, A: last, B: 7}, {Op: api.InPut, D: 2, A: last}}
	step := []api.Ins{{Op: api.InSet, A: last}, {Op: api.InConst, D: last, V: 5}, {Op: api.InSet, D: 1, A: last}}
	m := made(t, api.Object{State: make([]int64, 3), Out: []int{1, 1, 1}, Cross: 3, Deriv: l, Zero: l, At: l, Step: step})
	for range 3 {
		for i, do := range []smooth{m.Deriv, m.Zero, m.At} {
			if v, _, e := do(nil, []int64{6, 6, 6}, nil); !slices.Equal(v, []int64{0, 0, 1}) || e != api.OK {
				t.Error(i, v, e)
			}
		}
		if s, _, _, e := m.Step(nil, []int64{6, 6, 6}, nil, make([]bool, 3)); !slices.Equal(s, []int64{0, 5, 6}) || e != api.OK {
			t.Error(s, e)
		}
	}
}

// Flags of all that is done are gathered, in each call anew; what is skipped has none, nor are the object's own among them.
func TestFlags(t *testing.T) { // P18.2
	above := []api.Ins{{Op: api.InConst, V: most}, {Op: api.InAdd, A: 0, B: 0}}
	byZero := []api.Ins{{Op: api.InConst, V: 1}, {Op: api.InDiv, A: 0, B: 1}}
	skipped := append([]api.Ins{{Op: api.InSkip, A: 5, B: 2}}, above...)
	for i, c := range []struct {
		l    []api.Ins
		want int
	}{
		{nil, 0}, {above, 1}, {byZero, 2}, {slices.Concat(above, byZero), 3}, {slices.Concat(byZero, above), 3}, {slices.Concat(byZero, byZero), 2},
		{slices.Concat(above, byZero, []api.Ins{{Op: api.InAdd, D: 9, A: 8, B: 8}}), 3},
	} {
		o := api.Object{Flags: 3, Deriv: c.l, Zero: c.l, At: c.l, Step: append(slices.Clone(skipped), c.l...)}
		m := made(t, o)
		for k, do := range []smooth{m.Deriv, m.Zero, m.At} {
			if _, flags, e := do(nil, nil, nil); flags != c.want || e != api.OK {
				t.Error(i, k, flags, e)
			}
		}
		if _, _, flags, e := m.Step(nil, nil, nil, nil); flags != c.want || e != api.OK {
			t.Error(i, flags, e)
		}
	}
	m := made(t, api.Object{In: []int{1}, Deriv: []api.Ins{{Op: api.InIn}, {Op: api.InAdd, A: 0, B: 0}}})
	for _, c := range []struct {
		in   int64
		want int
	}{{most, 1}, {1, 0}, {least, 1}, {0, 0}} {
		if _, flags, _ := m.Deriv([]int64{c.in}, nil, nil); flags != c.want {
			t.Error(c.in, flags)
		}
	}
}

// Objects that may not be have no machine.
func TestNone(t *testing.T) { // P18.1
	put := []api.Ins{{Op: api.InPut}}
	for i, o := range []api.Object{
		{Flags: 4}, {Flags: -1}, {Cross: -1}, {Cross: 201}, {In: []int{3}}, {Out: []int{0}}, {State: make([]int64, 201)}, {Mem: make([]int64, 201)}, {In: slices.Repeat([]int{1}, 201)},
		{Deriv: []api.Ins{{}}}, {Deriv: put}, {Zero: put}, {At: put}, {Out: []int{1}, State: []int64{1}, Cross: 1, Step: put}, {Deriv: []api.Ins{{Op: 23}}}, {Deriv: []api.Ins{{Op: -1}}},
		{Deriv: []api.Ins{{Op: api.InConst, D: 4000}}}, {Zero: []api.Ins{{Op: api.InNeg, A: -1}}}, {At: []api.Ins{{Op: api.InIn}}}, {Step: []api.Ins{{Op: api.InSkip, B: 1}}}, {At: []api.Ins{{Op: api.InSkip}}},
		{Step: []api.Ins{{Op: api.InStore}}}, {Step: []api.Ins{{Op: api.InSet}}}, {Step: []api.Ins{{Op: api.InCross}}}, {Cross: 1, Zero: []api.Ins{{Op: api.InCross}}}, {At: []api.Ins{{Op: api.InNeg, V: 1}}},
		{Step: slices.Repeat([]api.Ins{{Op: api.InConst}}, api.MaxCode+1)},
	} {
		if m, e := New(o); m != nil || e != api.ErrCode {
			t.Error(i, m, e)
		}
	}
}

// A nil machine tells nothing, whatever it is given.
func TestNil(t *testing.T) { // P18.1, P18.3
	var m *Machine
	for i, do := range []smooth{m.Deriv, m.Zero, m.At} {
		for _, l := range [][]int64{nil, {}, {1, 2}} {
			if v, flags, e := do(l, l, l); len(v) != 0 || flags != 0 || e != api.ErrCode {
				t.Error(i, v, flags, e)
			}
			if s, n, flags, e := m.Step(l, l, l, []bool{true}); len(s) != 0 || len(n) != 0 || flags != 0 || e != api.ErrCode {
				t.Error(s, n, flags, e)
			}
		}
	}
	if m.Done() != 0 || !code.Same(m.Object(), api.Object{}) {
		t.Error(m.Done(), m.Object())
	}
}

// Banks of other than as many as the object's are refused, and nothing is done.
func TestOther(t *testing.T) { // P18.2, P18.3
	l := []api.Ins{{Op: api.InConst, V: most}, {Op: api.InAdd, A: 0, B: 0}, {Op: api.InPut}}
	o := api.Object{In: []int{1, 1}, Out: []int{1}, State: make([]int64, 3), Mem: make([]int64, 4), Cross: 5, Deriv: l, Zero: l, At: l, Step: l[:2]}
	m := made(t, o)
	right := [4]int{2, 3, 4, 5}
	for bank := range 4 {
		for _, n := range []int{0, 1, 2, 3, 4, 5, 6, 200, 201, 5000} {
			count := right
			count[bank] = n
			at := over{make([]int64, count[0]), make([]int64, count[1]), make([]int64, count[2]), make([]bool, count[3])}
			had := m.Done()
			if s, x, flags, e := m.Step(at.in, at.state, at.mem, at.raised); count != right && (len(s)+len(x)+flags != 0 || e != api.ErrArg || m.Done() != had) || count == right && (e != api.OK || flags != 1 || m.Done() != had+2) {
				t.Error(count, s, x, flags, e, m.Done())
			}
			had = m.Done()
			for i, do := range []smooth{m.Deriv, m.Zero, m.At} {
				v, flags, e := do(at.in, at.state, at.mem)
				// Which crossings were raised is asked in Step alone.
				if want := [3]int(right[:]); [3]int(count[:]) == want {
					had += 3
					if len(v) != []int{3, 5, 1}[i] || flags != 1 || e != api.OK {
						t.Error(count, i, v, flags, e)
					}
				} else if len(v)+flags != 0 || e != api.ErrArg {
					t.Error(count, i, v, flags, e)
				}
				if m.Done() != had {
					t.Error(count, i, m.Done(), had)
				}
			}
		}
	}
	// As many in all aren't as many in each.
	for i, do := range []smooth{m.Deriv, m.Zero, m.At} {
		if v, flags, e := do(make([]int64, 3), make([]int64, 2), make([]int64, 4)); len(v)+flags != 0 || e != api.ErrArg {
			t.Error(i, v, flags, e)
		}
	}
}

// The object that is told is the one that was handed in, and a copy: what is done to either doesn't matter.
func TestObject(t *testing.T) { // P18.3, rule 5
	d := &drawer{state: 5}
	for range 300 {
		o := d.object(9)
		want, _ := code.Object(code.Bytes(o))
		m, other := made(t, o), made(t, want)
		at := d.over(o)
		for range 2 {
			got := m.Object()
			if !code.Same(got, want) {
				t.Fatalf("%+v, wanted %+v", got, want)
			}
			for _, spoilt := range []api.Object{o, got} {
				spoil(spoilt)
			}
			checkAll(t, m, want, at)
			checkAll(t, other, want, at)
		}
		if m.Done() != other.Done() {
			t.Fatal(m.Done(), other.Done())
		}
	}
	if o := made(t, api.Object{Cross: 7, Flags: 2}).Object(); !code.Same(o, api.Object{Cross: 7, Flags: 2}) {
		t.Error(o)
	}
}

// spoil lets all that an object's lists have be something else, in their spare room, too.
func spoil(o api.Object) {
	for _, l := range [][]int{o.In, o.Out} {
		for i := range l[:cap(l)] {
			l[:cap(l)][i] = -9
		}
	}
	for _, l := range [][]int64{o.State, o.Mem} {
		for i := range l[:cap(l)] {
			l[:cap(l)][i] = -9
		}
	}
	for _, l := range [][]api.Ins{o.Deriv, o.Zero, o.Step, o.At} {
		for i := range l[:cap(l)] {
			l[:cap(l)][i] = api.Ins{Op: -9, A: -9}
		}
	}
}

// Objects drawn, done over what is drawn, are as the model has them, however often and in whatever order they are asked.
func TestDrawn(t *testing.T) { // P18.1, P18.2, P18.3, P18.4
	d := &drawer{state: 1}
	flagged, skipped := 0, 0
	for i := range 12_000 {
		o := d.object(1 + i%30)
		m := made(t, o)
		at := d.over(o)
		for range 3 {
			checkAll(t, m, o, at)
			if d.below(2) == 0 {
				at = d.over(o)
			}
		}
		want := model(o.Step, at)
		flagged += want.flags
		skipped += len(o.Step) - int(want.done)
	}
	if flagged < 1000 || skipped < 1000 {
		t.Error(flagged, skipped)
	}
}

// What is handed in stays as it was, its spare room too; what is told shares nothing with it, nor with what is told again.
func TestStays(t *testing.T) { // P18.4, rules 5, 6
	d := &drawer{state: 2}
	for range 1000 {
		o := d.object(12)
		m := made(t, o)
		at := d.over(o)
		for _, l := range []*[]int64{&at.in, &at.state, &at.mem} {
			spare := append(slices.Clone(*l), 71, 72)
			*l = spare[:len(*l)]
		}
		had := over{slices.Clone(at.in[:cap(at.in)]), slices.Clone(at.state[:cap(at.state)]), slices.Clone(at.mem[:cap(at.mem)]), slices.Clone(at.raised)}
		for range 2 {
			var told [][]int64
			for _, do := range []smooth{m.Deriv, m.Zero, m.At} {
				v, _, _ := do(at.in, at.state, at.mem)
				told = append(told, v)
			}
			state, mem, _, _ := m.Step(at.in, at.state, at.mem, at.raised)
			for _, l := range append(told, state, mem) {
				for i := range l[:cap(l)] {
					l[:cap(l)][i] = 99
				}
			}
			// One list may be handed in as several banks.
			if len(o.State) == len(o.Mem) {
				checkAll(t, m, o, over{at.in, at.state, at.state, at.raised})
			}
			checkAll(t, m, o, at)
			now := over{at.in[:cap(at.in)], at.state[:cap(at.state)], at.mem[:cap(at.mem)], at.raised}
			if !slices.Equal(now.in, had.in) || !slices.Equal(now.state, had.state) || !slices.Equal(now.mem, had.mem) || !slices.Equal(now.raised, had.raised) {
				t.Fatalf("%+v, it was %+v", now, had)
			}
		}
	}
}

// Pieces as long, banks as great as they may be.
func TestLong(t *testing.T) { // P18.2, P18.3, P18.4
	adds := slices.Repeat([]api.Ins{{Op: api.InAdd, D: 3999, A: 3999, B: 3998}}, api.MaxCode)
	adds[0] = api.Ins{Op: api.InConst, D: 3998, V: 1}
	put := slices.Clone(adds)
	put[api.MaxCode-1] = api.Ins{Op: api.InPut, D: 199, A: 3999}
	step := slices.Clone(adds)
	step[api.MaxCode-2] = api.Ins{Op: api.InSet, D: 199, A: 3999}
	step[api.MaxCode-1] = api.Ins{Op: api.InStore, D: 199, A: 3999}
	o := api.Object{In: slices.Repeat([]int{2}, 200), Out: slices.Repeat([]int{2}, 200), State: make([]int64, 200), Mem: make([]int64, 200), Cross: 200, Deriv: put, Zero: put, Step: step, At: put}
	m := made(t, o)
	bank := make([]int64, 200)
	for i, do := range []smooth{m.Deriv, m.Zero, m.At} {
		if v, flags, e := do(bank, bank, bank); len(v) != 200 || v[199] != 3998 || v[0] != 0 || flags != 0 || e != api.OK {
			t.Error(i, v, flags, e)
		}
	}
	s, n, flags, e := m.Step(bank, bank, bank, make([]bool, 200))
	if len(s) != 200 || s[199] != 3997 || len(n) != 200 || n[199] != 3997 || flags != 0 || e != api.OK || m.Done() != 16_000 {
		t.Error(s, n, flags, e, m.Done())
	}
	o.Step = slices.Clone(step)
	o.Step[1] = api.Ins{Op: api.InSkip, A: 7, B: api.MaxCode - 2}
	m = made(t, o)
	if s, n, _, e := m.Step(bank, bank, bank, make([]bool, 200)); !slices.Equal(s, bank) || !slices.Equal(n, bank) || e != api.OK || m.Done() != 2 {
		t.Error(s, n, e, m.Done())
	}
}
