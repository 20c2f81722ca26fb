package vm

import (
	"astrolabe/api"
	"astrolabe/fixq"
)

// banks are what a piece is done over.
type banks struct {
	in, state, mem []int64
	raised         []bool
}

// work is a piece that is being done. What is asked for stays as it was at first: what is set and stored stands beside the banks.
type work struct {
	banks
	registers          []int64
	made               []int64
	nextState, nextMem []int64
	flags              int
	skipped            int // how many of the next instructions aren't done
}

// operator does an instruction of its Op.
type operator func(w *work, x api.Ins)

// operators are told by their Op.
type operators [api.InSet + 1]operator

func allOperators() operators {
	return operators{
		api.InConst: gets(func(w *work, x api.Ins) int64 { return x.V }),
		api.InIn:    gets(func(w *work, x api.Ins) int64 { return w.in[x.A] }),
		api.InState: gets(func(w *work, x api.Ins) int64 { return w.state[x.A] }),
		api.InMem:   gets(func(w *work, x api.Ins) int64 { return w.mem[x.A] }),
		api.InCross: gets(func(w *work, x api.Ins) int64 { return truth(w.raised[x.A]) }),
		api.InNeg:   ofOne(fixq.Neg),
		api.InNot:   gets(func(w *work, x api.Ins) int64 { return truth(w.registers[x.A] != 1) }),
		api.InSqrt:  ofOne(fixq.Sqrt),
		api.InAdd:   ofTwo(fixq.Add),
		api.InSub:   ofTwo(fixq.Sub),
		api.InMul:   ofTwo(fixq.Mul),
		api.InDiv:   ofTwo(fixq.Div),
		api.InLess:  whether(func(a, b int64) bool { return a < b }),
		api.InMost:  whether(func(a, b int64) bool { return a <= b }),
		api.InSame:  whether(func(a, b int64) bool { return a == b }),
		api.InAnd:   whether(func(a, b int64) bool { return a == 1 && b == 1 }),
		api.InOr:    whether(func(a, b int64) bool { return a == 1 || b == 1 }),
		api.InPick:  gets(pick),
		api.InSkip:  skip,
		api.InPut:   puts(func(w *work) []int64 { return w.made }),
		api.InStore: puts(func(w *work) []int64 { return w.nextMem }),
		api.InSet:   puts(func(w *work) []int64 { return w.nextState }),
	}
}

func gets(value func(w *work, x api.Ins) int64) operator {
	return func(w *work, x api.Ins) { w.registers[x.D] = value(w, x) }
}

func ofOne(f func(a int64) (int64, int)) operator {
	return func(w *work, x api.Ins) {
		v, flags := f(w.registers[x.A])
		w.registers[x.D] = v
		w.flags |= flags
	}
}

func ofTwo(f func(a, b int64) (int64, int)) operator {
	return func(w *work, x api.Ins) {
		v, flags := f(w.registers[x.A], w.registers[x.B])
		w.registers[x.D] = v
		w.flags |= flags
	}
}

func whether(holds func(a, b int64) bool) operator {
	return func(w *work, x api.Ins) {
		w.registers[x.D] = truth(holds(w.registers[x.A], w.registers[x.B]))
	}
}

func puts(place func(w *work) []int64) operator {
	return func(w *work, x api.Ins) { place(w)[x.D] = w.registers[x.A] }
}

func pick(w *work, x api.Ins) int64 {
	if w.registers[x.A] == 1 {
		return w.registers[x.B]
	}
	return w.registers[x.C]
}

func skip(w *work, x api.Ins) {
	if w.registers[x.A] == 0 {
		w.skipped = x.B
	}
}

// truth is a bool as a number.
func truth(b bool) int64 {
	if b {
		return 1
	}
	return 0
}
