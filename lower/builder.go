package lower

import "astrolabe/api"

// builder is a piece's instructions so far, how many registers they make, and the cells that were taken: in which memory the first one is, and what makes the registers of what they are next.
type builder struct {
	code      []api.Ins
	registers int
	cells     int
	next      []func() int
}

// put puts an instruction: to is its D, from its A, B, and C, as far as it has them.
func (b *builder) put(op, to int, from ...int) {
	var abc [3]int
	copy(abc[:], from)
	b.code = append(b.code, api.Ins{Op: op, D: to, A: abc[0], B: abc[1], C: abc[2]})
}

// made puts an instruction that makes a register more, and tells which.
func (b *builder) made(op int, from ...int) int {
	b.put(op, b.registers, from...)
	b.registers++
	return b.registers - 1
}

func (b *builder) constant(v int64) int {
	d := b.made(api.InConst)
	b.code[len(b.code)-1].V = v
	return d
}

func (b *builder) zero() int {
	return b.constant(0)
}

// cell takes a cell.
func (b *builder) cell(next func() int) int {
	b.next = append(b.next, next)
	return b.made(api.InMem, b.cells+len(b.next)-1)
}

// withCells puts what takes cells, from a memory on, and behind it what they are next.
func (b *builder) withCells(first int, value func() int) int {
	b.cells, b.next = first, nil
	d := value()
	// By index, since there may be more of them once one is made.
	for i := 0; i < len(b.next); i++ {
		b.put(api.InStore, first+i, b.next[i]())
	}
	return d
}

// onlyIf puts an InSkip over all of what is put by rest.
func (b *builder) onlyIf(register int, rest func()) {
	at := len(b.code)
	b.put(api.InSkip, 0, register)
	rest()
	b.code[at].B = len(b.code) - at - 1
}
