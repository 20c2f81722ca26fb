package verify

import "astrolabe/api"

// What a number of an instruction is.
const (
	none     = iota // the instruction has none there
	register        // one that is made, or asked for
	input           // one of In
	state           // one of State
	memory          // one of Mem
	crossing        // one of the crossings
	made            // a place of what the piece makes
	behind          // how many instructions behind
)

// The pieces, in their order.
const (
	deriv = iota
	zero
	step
	at
	pieceCount
)

// The pieces in which an instruction may stand, a bit each.
const (
	inStep     = 1 << step
	notInStep  = 1<<deriv | 1<<zero | 1<<at
	everywhere = inStep | notInStep
)

// row says what the numbers of an Op's instructions are, whether they have a V, and in which pieces they may stand.
type row struct {
	d, a, b, c int
	v          bool
	in         uint
}

// rows are told by their Op. Those that no instruction has stand in no piece.
var rows = [...]row{
	api.InConst: {d: register, v: true, in: everywhere},
	api.InIn:    {d: register, a: input, in: everywhere},
	api.InState: {d: register, a: state, in: everywhere},
	api.InMem:   {d: register, a: memory, in: everywhere},
	api.InCross: {d: register, a: crossing, in: inStep},
	api.InNeg:   {d: register, a: register, in: everywhere},
	api.InNot:   {d: register, a: register, in: everywhere},
	api.InSqrt:  {d: register, a: register, in: everywhere},
	api.InAdd:   {d: register, a: register, b: register, in: everywhere},
	api.InSub:   {d: register, a: register, b: register, in: everywhere},
	api.InMul:   {d: register, a: register, b: register, in: everywhere},
	api.InDiv:   {d: register, a: register, b: register, in: everywhere},
	api.InLess:  {d: register, a: register, b: register, in: everywhere},
	api.InMost:  {d: register, a: register, b: register, in: everywhere},
	api.InSame:  {d: register, a: register, b: register, in: everywhere},
	api.InAnd:   {d: register, a: register, b: register, in: everywhere},
	api.InOr:    {d: register, a: register, b: register, in: everywhere},
	api.InPick:  {d: register, a: register, b: register, c: register, in: everywhere},
	api.InSkip:  {a: register, b: behind, in: inStep},
	api.InPut:   {d: made, a: register, in: notInStep},
	api.InStore: {d: memory, a: register, in: inStep},
	api.InSet:   {d: state, a: register, in: inStep},
}

func rowOf(op int) row {
	if op < 0 || op >= len(rows) {
		return row{}
	}
	return rows[op]
}

// part is a number of an instruction, and what it is.
type part struct{ is, number int }

func (r row) parts(x api.Ins) [4]part {
	return [...]part{{r.d, x.D}, {r.a, x.A}, {r.b, x.B}, {r.c, x.C}}
}
