package code

import "astrolabe/api"

// whole is any whole type whose numbers have room in an int64: of greater ones twice has none in 64 bits.
type whole interface {
	~int | ~int8 | ~int16 | ~int32 | ~int64 | ~uint8 | ~uint16 | ~uint32
}

// taker takes a number that is folded: its sign is the lowest bit. Whether numbers are put or counted is the taker's own, so that there is one order of them.
type taker func(folded uint64)

func writeNumber[T whole](to taker, v T) {
	folded := uint64(v) << 1
	if v < 0 {
		// Twice what is below -1, and one more: of the least number, too, whose size has no room in an int64.
		folded = ^folded
	}
	to(folded)
}

func writeList[T any](to taker, l []T, each func(taker, T)) {
	writeNumber(to, len(l))
	for _, v := range l {
		each(to, v)
	}
}

func writeIns(to taker, in api.Ins) {
	for _, v := range [...]int{in.Op, in.D, in.A, in.B, in.C} {
		writeNumber(to, v)
	}
	writeNumber(to, in.V)
}

func write(o api.Object, to taker) {
	writeList(to, o.In, writeNumber)
	writeList(to, o.Out, writeNumber)
	writeList(to, o.State, writeNumber)
	writeList(to, o.Mem, writeNumber)
	writeNumber(to, o.Cross)
	writeNumber(to, o.Flags)
	for _, l := range [...][]api.Ins{o.Deriv, o.Zero, o.Step, o.At} {
		writeList(to, l, writeIns)
	}
}
