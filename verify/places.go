package verify

import (
	"iter"

	"astrolabe/api"
)

// place is where an instruction stands: its piece, its number there, how many stand behind it.
type place struct{ piece, number, behind int }

func pieces(o api.Object) [pieceCount][]api.Ins {
	return [...][]api.Ins{deriv: o.Deriv, zero: o.Zero, step: o.Step, at: o.At}
}

// instructions yields all instructions of an object with their places.
func instructions(o api.Object) iter.Seq2[place, api.Ins] {
	return func(yield func(place, api.Ins) bool) {
		for p, piece := range pieces(o) {
			for n, x := range piece {
				if !yield(place{p, n, len(piece) - 1 - n}, x) {
					return
				}
			}
		}
	}
}

// room tells how many there are of what a number is, where its instruction stands: the number is from 0 on, and less.
type room func(is int, where place) int

func rooms(o api.Object) room {
	makes := [pieceCount]int{deriv: len(o.State), zero: o.Cross, at: len(o.Out)}
	return func(is int, where place) int {
		switch is {
		case register:
			return api.MaxCode
		case input:
			return len(o.In)
		case state:
			return len(o.State)
		case memory:
			return len(o.Mem)
		case crossing:
			return o.Cross
		case made:
			return makes[where.piece]
		case behind:
			return where.behind + 1
		}
		return 1 // what isn't there is 0
	}
}

func right(x api.Ins, where place, most room) bool {
	r := rowOf(x.Op)
	if r.in&(1<<where.piece) == 0 || x.V != 0 && !r.v {
		return false
	}
	for _, p := range r.parts(x) {
		if p.number < 0 || p.number >= most(p.is, where) {
			return false
		}
	}
	return true
}
