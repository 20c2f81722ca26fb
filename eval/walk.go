package eval

import "astrolabe/api"

// walk is the whole of an evaluation: how a cell is taken, what the cells are next, and the flags.
type walk struct {
	operators map[int]operator
	take      func(first int64) int64
	next      []func() int64
	flags     int
}

// evaluate tells a node's value, the flags, and what the cells are next. To take a cell is to be told what it is; what it would be at first is told to it.
func (r *Ready) evaluate(at api.Point, n *node, take func(first int64) int64) (int64, int, []int64) {
	w := &walk{operators: r.operators, take: take}
	v := w.scope(at, r.lets).value(n)
	var next []int64
	// By index, since there may be more of them once one is evaluated.
	for i := 0; i < len(w.next); i++ {
		next = append(next, w.next[i]())
	}
	return v, w.flags, next
}

// cell takes a cell.
func (w *walk) cell(first int64, next func() int64) int64 {
	w.next = append(w.next, next)
	return w.take(first)
}

// scope is where nodes of one declaration are evaluated: at the point itself, or, where they are called, at one of the arguments alone.
type scope struct {
	*walk
	api.Point
	lets  []*node
	known []known
}

// known is the value of a let, once it is asked for.
type known struct {
	is bool
	v  int64
}

func (w *walk) scope(at api.Point, lets []*node) *scope {
	return &scope{w, at, lets, make([]known, len(lets))}
}

func (s *scope) value(n *node) int64 {
	switch n.kind {
	case api.ExFix, api.ExBool:
		return n.v
	case api.ExName:
		return s.named(n.name)
	case api.ExIs:
		return truth(s.Mode[n.name.number] == n.v)
	case api.ExPre:
		return s.cell(0, s.later(n.parts[0]))
	case api.ExArrow:
		first := s.cell(1, never)
		return pick(first, s.value(n.parts[0]), s.value(n.parts[1]))
	case api.ExFby:
		first := s.cell(1, never)
		ahead := s.cell(0, s.later(n.parts[1]))
		return pick(first, s.value(n.parts[0]), ahead)
	case api.ExCall:
		return s.call(n)
	}
	return s.operated(n)
}

func (s *scope) named(name thing) int64 {
	switch name.sort {
	case api.VarParam:
		return s.In[name.number]
	case api.VarLet:
		return s.let(name.number)
	case api.VarDer:
		return numberAt(s.State, name.number)
	}
	return numberAt(s.Mem, name.number)
}

// numberAt is 0 of a bank that has no such number: no text has a fun or a node with a der or a mem, and no point has what one is.
func numberAt(bank []int64, number int) int64 {
	if number >= len(bank) {
		return 0
	}
	return bank[number]
}

func (s *scope) let(number int) int64 {
	if !s.known[number].is {
		s.known[number] = known{true, s.value(s.lets[number])}
	}
	return s.known[number].v
}

// later is a node's value, evaluated when it is asked for.
func (s *scope) later(n *node) func() int64 {
	return func() int64 { return s.value(n) }
}

func (s *scope) call(n *node) int64 {
	args := make([]int64, len(n.parts))
	for i, part := range n.parts {
		args[i] = s.value(part)
	}
	return s.scope(api.Point{In: args}, n.called.lets).value(n.called.value)
}

func (s *scope) operated(n *node) int64 {
	var parts [3]int64
	for i, part := range n.parts {
		parts[i] = s.value(part)
	}
	v, flags := s.operators[n.kind](parts)
	s.flags |= flags
	return v
}

// never is the next of a cell that tells whether it is the first time.
func never() int64 { return 0 }
