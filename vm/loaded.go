package vm

import (
	"astrolabe/api"
	"astrolabe/verify"
)

// The pieces, in their order.
const (
	deriv = iota
	zero
	step
	at
	pieceCount
)

// piece has its instructions, how many registers they ask for, and how many places there are for what they put.
type piece struct {
	code             []api.Ins
	registers, makes int
}

// loaded is what a machine has of its object: a copy, its pieces, and what does their instructions.
type loaded struct {
	object    api.Object
	pieces    [pieceCount]piece
	operators operators
}

func load(o api.Object) loaded {
	o = copied(o)
	cut := func(code []api.Ins, makes int) piece {
		return piece{code, verify.Registers(code), makes}
	}
	return loaded{o, [...]piece{
		deriv: cut(o.Deriv, len(o.State)),
		zero:  cut(o.Zero, o.Cross),
		step:  cut(o.Step, 0),
		at:    cut(o.At, len(o.Out)),
	}, allOperators()}
}

func copied(o api.Object) api.Object {
	return api.Object{
		In: fresh(o.In), Out: fresh(o.Out),
		State: fresh(o.State), Mem: fresh(o.Mem),
		Cross: o.Cross, Flags: o.Flags,
		Deriv: fresh(o.Deriv), Zero: fresh(o.Zero),
		Step: fresh(o.Step), At: fresh(o.At),
	}
}

// fresh is a copy. (slices.Clone of an empty list would still be a piece of it.)
func fresh[T any](l []T) []T {
	return append([]T(nil), l...)
}

// fits tells whether banks have as many as the object's. Which crossings were raised is asked in Step alone.
func (l *loaded) fits(which int, over banks) bool {
	crossings := 0
	if which == step {
		crossings = l.object.Cross
	}
	return len(over.in) == len(l.object.In) && len(over.state) == len(l.object.State) &&
		len(over.mem) == len(l.object.Mem) && len(over.raised) == crossings
}

// begin is a piece of which nothing is done yet.
func (l *loaded) begin(which int, over banks) work {
	p := l.pieces[which]
	w := work{banks: over, registers: make([]int64, p.registers), made: make([]int64, p.makes)}
	if which == step {
		w.nextState, w.nextMem = fresh(over.state), fresh(over.mem)
	}
	return w
}
