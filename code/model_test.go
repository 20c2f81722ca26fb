package code

import (
	"encoding/binary"
	"hash/fnv"
	"slices"

	"astrolabe/api"
)

// The model: the chapter's words, said again with the library's own numbers of any length and sums.

func modelNumber(v int64) []byte { return binary.AppendVarint(nil, v) }

// sealed puts the sum of what there is behind it.
func sealed(b []byte) []byte {
	h := fnv.New32a()
	h.Write(b)
	return binary.LittleEndian.AppendUint32(slices.Clone(b), h.Sum32())
}

// numbersOf are the numbers of an object's bytes.
func numbersOf(o api.Object) []int64 {
	var l []int64
	for _, bank := range [][]int{o.In, o.Out} {
		l = append(l, int64(len(bank)))
		for _, v := range bank {
			l = append(l, int64(v))
		}
	}
	for _, bank := range [][]int64{o.State, o.Mem} {
		l = append(append(l, int64(len(bank))), bank...)
	}
	l = append(l, int64(o.Cross), int64(o.Flags))
	for _, piece := range [][]api.Ins{o.Deriv, o.Zero, o.Step, o.At} {
		l = append(l, int64(len(piece)))
		for _, in := range piece {
			l = append(l, int64(in.Op), int64(in.D), int64(in.A), int64(in.B), int64(in.C), in.V)
		}
	}
	return l
}

func written(numbers []int64) []byte {
	b := []byte("AST1")
	for _, v := range numbers {
		b = append(b, modelNumber(v)...)
	}
	return b
}

func modelBytes(o api.Object) []byte { return sealed(written(numbersOf(o))) }

// modelRead is the object of numbers, as far as they go, and whether there are just as many as it has.
func modelRead(numbers []int64) (api.Object, bool) {
	right := true
	next := func() int64 {
		if len(numbers) == 0 {
			right = false
			return 0
		}
		v := numbers[0]
		numbers = numbers[1:]
		return v
	}
	count := func() int64 {
		n := next()
		right = right && n >= 0
		return n
	}
	var o api.Object
	for _, bank := range []*[]int{&o.In, &o.Out} {
		for n := count(); n > 0 && right; n-- {
			*bank = append(*bank, int(next()))
		}
	}
	for _, bank := range []*[]int64{&o.State, &o.Mem} {
		for n := count(); n > 0 && right; n-- {
			*bank = append(*bank, next())
		}
	}
	o.Cross, o.Flags = int(next()), int(next())
	for _, piece := range []*[]api.Ins{&o.Deriv, &o.Zero, &o.Step, &o.At} {
		for n := count(); n > 0 && right; n-- {
			l := []int64{next(), next(), next(), next(), next(), next()}
			*piece = append(*piece, api.Ins{Op: int(l[0]), D: int(l[1]), A: int(l[2]), B: int(l[3]), C: int(l[4]), V: l[5]})
		}
	}
	return o, right && len(numbers) == 0
}

// modelObject is the object whose bytes these are.
func modelObject(b []byte) (api.Object, bool) {
	if len(b) < 8 || string(b[:4]) != "AST1" || !slices.Equal(sealed(b[:len(b)-4]), b) {
		return api.Object{}, false
	}
	var l []int64
	for rest := b[4 : len(b)-4]; len(rest) > 0; {
		v, n := binary.Varint(rest)
		if n <= 0 || !slices.Equal(modelNumber(v), rest[:n]) {
			return api.Object{}, false
		}
		l, rest = append(l, v), rest[n:]
	}
	o, right := modelRead(l)
	if !right {
		return api.Object{}, false
	}
	return o, true
}

// drawer draws objects and bytes: the same ones each time.
type drawer struct{ state uint64 }

func (d *drawer) below(n int) int {
	d.state = d.state*6364136223846793005 + 1442695040888963407
	return int(d.state>>33) % n
}

func (d *drawer) number() int64 {
	const most = 1<<63 - 1
	at := int64(1) << d.below(63)
	l := [...]int64{0, 1, -1, 63, -64, 64, -65, most, -most - 1, at, at - 1, -at, -at - 1, int64(d.state), int64(d.below(300)), -int64(d.below(300))}
	return l[d.below(len(l))]
}

func listOf[T any](d *drawer, most int, one func() T) []T {
	var l []T
	for range d.below(3) * d.below(most) {
		l = append(l, one())
	}
	return l
}

func (d *drawer) ins() api.Ins {
	number := func() int { return int(d.number()) }
	return api.Ins{Op: number(), D: number(), A: number(), B: number(), C: number(), V: d.number()}
}

// object draws one whose lists have few in them.
func (d *drawer) object(most int) api.Object {
	number := func() int { return int(d.number()) }
	return api.Object{
		In: listOf(d, most, number), Out: listOf(d, most, number), State: listOf(d, most, d.number), Mem: listOf(d, most, d.number),
		Cross: number(), Flags: number(),
		Deriv: listOf(d, most, d.ins), Zero: listOf(d, most, d.ins), Step: listOf(d, most, d.ins), At: listOf(d, most, d.ins),
	}
}
