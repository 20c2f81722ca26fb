package heun

import (
	"slices"
	"testing"

	"astrolabe/api"
	"astrolabe/vm"
)

// checkTold holds a call's answer against what it should be.
func checkTold(t *testing.T, name string, l []int64, flags int, e api.Errno, want answer) {
	t.Helper()
	if !want.same(answer{l, flags}) || e != api.OK {
		t.Errorf("%s: %v %d %v, wanted %v", name, l, flags, e, want)
	}
}

func TestExample(t *testing.T) { // P19.1, P19.2
	m := ofText(t, "hybrid m() { der x = 1 init 0; }")
	l, flags, e := Step(m, nil, []int64{3 * one}, nil, one/2)
	checkTold(t, "step", l, flags, e, answer{[]int64{7 * one / 2}, 0})
	l, flags, e = Euler(m, nil, []int64{3 * one}, nil, one/2)
	checkTold(t, "euler", l, flags, e, answer{[]int64{7 * one / 2}, 0})
}

// Steps worked out by hand.
func TestByHand(t *testing.T) { // P19.1, P19.2
	for _, c := range []struct {
		text        string
		state       []int64
		h           int64
		ahead, next []int64
	}{
		{"der x = x init 0;", []int64{one}, one, []int64{2 * one}, []int64{5 * one / 2}},
		{"der x = x init 0;", []int64{-one}, one, []int64{-2 * one}, []int64{-5 * one / 2}},
		{"der x = x init 0;", []int64{one}, -one, []int64{0}, []int64{one / 2}},
		{"der x = u * x + k init 0;", []int64{one}, one, []int64{11 * one}, []int64{26 * one}},
		// The slope ahead is of all states ahead, not of some that have gone further.
		{"der x = y init 0; der y = -x init 0;", []int64{one, 0}, one, []int64{one, -one}, []int64{one / 2, -one}},
		// Of h 0 nothing changes.
		{"der x = x init 0; der y = 3 init 0;", []int64{5, -7}, 0, []int64{5, -7}, []int64{5, -7}},
		// A half of a sum is cut ahead of its product by h, each nearer to 0.
		{"der x = x init 0;", []int64{1}, 3 * one, []int64{4}, []int64{7}},
		{"der x = x init 0;", []int64{-1}, 3 * one, []int64{-4}, []int64{-7}},
		{"der x = x init 0;", []int64{1}, one / 2, []int64{1}, []int64{1}},
		{"der x = x init 0;", []int64{-1}, one / 2, []int64{-1}, []int64{-1}},
		{"der x = x init 0;", []int64{3}, one / 2, []int64{4}, []int64{4}},
		{"der x = x init 0;", []int64{-3}, one / 2, []int64{-4}, []int64{-4}},
		{"der x = 2 * x init 0;", []int64{3}, -one / 4, []int64{2}, []int64{2}},
		// Parts of the sum that are both odd: neither has a half of its own.
		{"der x = x init 0;", []int64{1}, 2 * one, []int64{3}, []int64{5}},
		{"", nil, one, nil, nil},
	} {
		m := ofText(t, "hybrid m(u: fix) { mem k: fix init 0; "+c.text+" }")
		in, mem := []int64{3 * one}, []int64{7 * one}
		l, flags, e := Euler(m, in, c.state, mem, c.h)
		checkTold(t, c.text, l, flags, e, answer{c.ahead, 0})
		l, flags, e = Step(m, in, c.state, mem, c.h)
		checkTold(t, c.text, l, flags, e, answer{c.next, 0})
	}
}

// great is 2^20; a product of two of them is beyond the ends.
const great = "1048576"

// Each place that raises flags, and no other one.
func TestFlags(t *testing.T) { // P19.1, P19.2
	for _, c := range []struct {
		name, text  string
		state       []int64
		h           int64
		ahead, step int
	}{
		{"none", "der x = x init 0;", []int64{one}, one, 0, 0},
		{"the slope here", "der x = 1 init 0; der y = 0 * (1 / x) init 0;", []int64{0, 0}, one, 2, 2},
		{"the slope here, beyond", "der x = 1 init 0; der y = 0 * (" + great + " * (" + great + " - x * " + great + ")) init 0;", []int64{0, 0}, one, 1, 1},
		{"the slope ahead", "der x = 1 init 0; der y = 0 * (1 / x) init 0;", []int64{-one, 0}, one, 0, 2},
		{"the slope ahead, beyond", "der x = 1 init 0; der y = 0 * (" + great + " * x * " + great + ") init 0;", []int64{0, 0}, one, 0, 1},
		{"both slopes, each its own", "der x = 1 init 0; der y = 0 * (sqrt x + " + great + " * ((x + 1) * " + great + ")) init 0;", []int64{-one, 0}, one, 2, 3},
		{"the way ahead", "der x = if x < 1 then " + great + " else -" + great + " init 0;", []int64{0}, one << 20, 1, 1},
		{"the end ahead", "der x = if x < 2147483647 then 2 else -2 init 0;", []int64{most - one}, one, 1, 1},
		{"the end ahead, below", "der x = if -2147483647 < x then -2 else 2 init 0;", []int64{least + one + 1}, one, 1, 1},
		{"the sum", "der x = 1500000000 init 0;", []int64{0}, one / 4, 0, 1},
		{"the sum, below, of h 0", "der x = -1500000000 init 0;", []int64{0}, 0, 0, 1},
		{"the way", "der t = 1 init 0; der x = if 0 < t then 4 * " + great + " else 0 init 0;", []int64{0, 0}, one << 20, 0, 1},
		{"the end", "der t = 1 init 0; der x = if 0 < t then 4 else 0 init 0;", []int64{0, most - one}, one, 0, 1},
		{"the end, below", "der t = 1 init 0; der x = if 0 < t then -4 else 0 init 0;", []int64{0, least + one}, one, 0, 1},
		{"what is at the ends", "der x = 2 init 0;", []int64{most - 2*one}, one, 0, 0},
		{"the first of several", "der x = 2 init 0; der y = 0 init 0;", []int64{most, 0}, one, 1, 1},
	} {
		m := ofText(t, "hybrid m() { "+c.text+" }")
		for range 2 {
			if l, flags, e := Euler(m, nil, c.state, nil, c.h); flags != c.ahead || e != api.OK {
				t.Error("ahead:", c.name, l, flags, e)
			}
			if l, flags, e := Step(m, nil, c.state, nil, c.h); flags != c.step || e != api.OK {
				t.Error(c.name, l, flags, e)
			}
			checkStep(t, m, nil, c.state, nil, c.h)
		}
	}
}

// What is beyond the ends is held, and the step goes on from there.
func TestHeld(t *testing.T) { // P19.1, P19.2
	for _, c := range []struct {
		text              string
		state, h          int64
		ahead, next       int64
		flagsAhead, flags int
	}{
		{"der x = x init 0;", most, one, most, most, 1, 1},
		{"der x = x init 0;", least, one, least, least, 1, 1},
		{"der x = x init 0;", most, -one, 0, most - most/2, 0, 0},
		{"der x = 1500000000 init 0;", 0, one, 1500000000 * one, most / 2, 0, 1},
		{"der x = -1500000000 init 0;", 0, one, -1500000000 * one, least / 2, 0, 1},
		{"der x = 1 / x init 0;", 0, one / 2, most / 2, most / 4, 2, 3},
	} {
		m := ofText(t, "hybrid m() { "+c.text+" }")
		l, flags, e := Euler(m, nil, []int64{c.state}, nil, c.h)
		checkTold(t, c.text, l, flags, e, answer{[]int64{c.ahead}, c.flagsAhead})
		l, flags, e = Step(m, nil, []int64{c.state}, nil, c.h)
		checkTold(t, c.text, l, flags, e, answer{[]int64{c.next}, c.flags})
		checkStep(t, m, nil, []int64{c.state}, nil, c.h)
	}
}

// Banks that don't fit have the machine's error, and nothing is done.
func TestRefused(t *testing.T) { // P19.1, P19.2
	over := []api.Ins{{Op: api.InConst, V: most}, {Op: api.InAdd, A: 0, B: 0}, {Op: api.InPut}}
	m := made(t, api.Object{In: []int{1, 2}, State: make([]int64, 3), Mem: make([]int64, 4), Deriv: over})
	for bank := range 3 {
		for _, n := range []int{0, 1, 2, 3, 4, 5, 200, 201, 5000} {
			count := [3]int{2, 3, 4}
			count[bank] = n
			in, state, mem := make([]int64, count[0]), make([]int64, count[1]), make([]int64, count[2])
			for _, h := range []int64{0, one, most, least} {
				checkRefused(t, m, count != [3]int{2, 3, 4}, in, state, mem, h)
			}
		}
	}
}

func checkRefused(t *testing.T, m *vm.Machine, refused bool, in, state, mem []int64, h int64) {
	t.Helper()
	had := m.Done()
	a, ofA, e := Euler(m, in, state, mem, h)
	b, ofB, f := Step(m, in, state, mem, h)
	if refused && (len(a)+ofA+len(b)+ofB != 0 || e != api.ErrArg || f != api.ErrArg || m.Done() != had) {
		t.Error(len(in), len(state), len(mem), a, ofA, e, b, ofB, f, m.Done()-had)
	}
	if !refused && (len(a) != 3 || ofA != 1 || len(b) != 3 || ofB != 1 || e != api.OK || f != api.OK || m.Done() != had+9) {
		t.Error(a, ofA, e, b, ofB, f, m.Done()-had)
	}
}

// A nil machine has the error of one, whatever else is handed in.
func TestNil(t *testing.T) { // P19.1, P19.2
	for _, l := range [][]int64{nil, {}, {1, 2}} {
		for _, h := range []int64{0, one, least} {
			if v, flags, e := Step(nil, l, l, l, h); len(v) != 0 || flags != 0 || e != api.ErrCode {
				t.Error(v, flags, e)
			}
			if v, flags, e := Euler(nil, l, l, l, h); len(v) != 0 || flags != 0 || e != api.ErrCode {
				t.Error(v, flags, e)
			}
		}
	}
}

// An object without states, and a machine of none, go along without anything.
func TestEmpty(t *testing.T) { // P19.1, P19.2
	for _, m := range []*vm.Machine{made(t, api.Object{}), made(t, api.Object{Flags: 3, Cross: 2}), new(vm.Machine)} {
		for _, l := range [][]int64{nil, {}} {
			v, flags, e := Step(m, l, l, l, one)
			checkTold(t, "step", v, flags, e, answer{})
			v, flags, e = Euler(m, l, l, l, one)
			checkTold(t, "euler", v, flags, e, answer{})
		}
	}
}

// A step asks Deriv twice, the states ahead ask it once; the other pieces aren't asked.
func TestAsks(t *testing.T) { // P19.4
	put := func(n int) []api.Ins { return slices.Repeat([]api.Ins{{Op: api.InConst, V: one}}, n) }
	for _, deriv := range []int{0, 1, 7, api.MaxCode} {
		m := made(t, api.Object{State: []int64{1}, Deriv: put(deriv), Zero: put(100), Step: put(1000), At: put(3000)})
		for _, h := range []int64{0, one, most, least} {
			for range 2 {
				had := m.Done()
				Step(m, nil, []int64{one}, nil, h)
				if n := m.Done() - had; n != int64(2*deriv) {
					t.Error("step:", deriv, h, n)
				}
				had = m.Done()
				Euler(m, nil, []int64{one}, nil, h)
				if n := m.Done() - had; n != int64(deriv) {
					t.Error("euler:", deriv, h, n)
				}
				Between([]int64{1}, []int64{2}, 1, 1)
			}
		}
	}
}

// The states that are handed in are those that are gone from, not those that the object has at first.
func TestFirst(t *testing.T) { // P19.1, P19.2
	m := made(t, api.Object{State: []int64{50}, Mem: []int64{60}, Deriv: []api.Ins{{Op: api.InMem}, {Op: api.InPut}}})
	l, flags, e := Step(m, nil, []int64{1}, []int64{2}, one)
	checkTold(t, "step", l, flags, e, answer{[]int64{3}, 0})
	l, flags, e = Euler(m, nil, []int64{1}, []int64{2}, one)
	checkTold(t, "euler", l, flags, e, answer{[]int64{3}, 0})
}

// As many states as there may be, each with a slope of its own.
func TestMany(t *testing.T) { // P19.1, P19.2
	o := api.Object{State: make([]int64, api.MaxBank)}
	var state, ahead, next []int64
	for i := range o.State {
		o.Deriv = append(o.Deriv, api.Ins{Op: api.InState, A: i}, api.Ins{Op: api.InPut, D: i})
		s := int64(4 * (i - 100))
		state, ahead, next = append(state, s), append(ahead, 2*s), append(next, s+3*s/2)
	}
	m := made(t, o)
	l, flags, e := Step(m, nil, state, nil, one)
	checkTold(t, "step", l, flags, e, answer{next, 0})
	l, flags, e = Euler(m, nil, state, nil, one)
	checkTold(t, "euler", l, flags, e, answer{ahead, 0})
}

// Objects drawn go along as the model does, and of h 0 they stay.
func TestDrawn(t *testing.T) { // P19.1, P19.2, P19.4
	d := &drawer{state: 1}
	flagged, moved := [4]int{}, 0
	for range 6000 {
		o := d.object()
		m := made(t, o)
		for range 4 {
			in, state, mem := d.numbers(len(o.In)), d.numbers(len(o.State)), d.numbers(len(o.Mem))
			flagged[checkStep(t, m, in, state, mem, d.number())]++
			if l, _, _ := Step(m, in, state, mem, one); !slices.Equal(l, state) {
				moved++
			}
			checkStep(t, m, in, state, mem, 0)
			ahead, _, _ := Euler(m, in, state, mem, 0)
			next, _, _ := Step(m, in, state, mem, 0)
			if !slices.Equal(ahead, state) || !slices.Equal(next, state) {
				t.Fatalf("%+v of %v: %v %v", o, state, ahead, next)
			}
		}
	}
	if slices.Min(flagged[:]) < 500 || moved < 5000 {
		t.Error(flagged, moved)
	}
}

// What is handed in stays as it was, its spare room too; what is told shares nothing with it, nor with what is told again.
func TestStays(t *testing.T) { // P19.1, P19.2, P19.3, rules 5, 6
	d := &drawer{state: 2}
	spared := func(l []int64) []int64 { return append(l, 71, 72)[:len(l)] }
	all := func(l []int64) []int64 { return slices.Clone(l[:cap(l)]) }
	spoil := func(l []int64) {
		for i := range l[:cap(l)] {
			l[:cap(l)][i] = 99
		}
	}
	for range 1000 {
		o := d.object()
		m := made(t, o)
		in, state, mem, h := spared(d.numbers(len(o.In))), spared(d.numbers(len(o.State))), spared(d.numbers(len(o.Mem))), d.number()
		hadIn, hadState, hadMem := all(in), all(state), all(mem)
		for range 2 {
			checkStep(t, m, in, state, mem, h)
			ahead, _, _ := Euler(m, in, state, mem, h)
			next, _, _ := Step(m, in, state, mem, h)
			between, _ := Between(state, state, 1, 1)
			for _, l := range [][]int64{ahead, next, between} {
				spoil(l)
			}
			// One list may be handed in as several banks.
			if len(o.In) == len(o.State) && len(o.Mem) == len(o.State) {
				checkStep(t, m, state, state, state, h)
			}
			if !slices.Equal(all(in), hadIn) || !slices.Equal(all(state), hadState) || !slices.Equal(all(mem), hadMem) {
				t.Fatalf("%v %v %v, they were %v %v %v", all(in), all(state), all(mem), hadIn, hadState, hadMem)
			}
		}
	}
}
