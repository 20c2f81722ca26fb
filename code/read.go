package code

import "astrolabe/api"

const (
	leastNumber = 1 // bytes of a number
	leastIns    = 6 // of an instruction: it is six numbers
)

// reader reads numbers as they are written, and in no other way. Once it is lost, it reads nothing more.
type reader struct {
	rest []byte
	lost bool
}

// within reads what stands between the signs and the sum: it is lost at first, if these aren't an object's.
func within(b []byte) *reader {
	end := len(b) - sumSize
	if end < len(signs) || string(b[:len(signs)]) != signs || [sumSize]byte(b[end:]) != sum(b[:end]) {
		return &reader{lost: true}
	}
	return &reader{rest: b[len(signs):end]}
}

func (r *reader) octet() byte {
	if r.lost || len(r.rest) == 0 {
		r.lost = true
		return 0
	}
	c := r.rest[0]
	r.rest = r.rest[1:]
	return c
}

func (r *reader) number() int64 {
	var folded uint64
	c := byte(more)
	for at := 0; c >= more && !r.lost; at += perByte {
		c = r.octet()
		part := uint64(c &^ more)
		folded |= part << at
		noRoom := folded>>at != part
		inVain := c == 0 && at > 0 // fewer bytes would do
		r.lost = r.lost || noRoom || inVain
	}
	switch v := int64(folded >> 1); {
	case r.lost:
		return 0
	case folded&1 == 1:
		return ^v
	default:
		return v
	}
}

// count is how many a list has: not more than what is left has room for, if each has so many bytes at least, so that no list is made that is greater than what was handed in can tell.
func (r *reader) count(least int) int {
	n := r.number()
	if r.lost || n < 0 || n > int64(len(r.rest)/least) {
		r.lost = true
		return 0
	}
	return int(n)
}

// readNumber reads a number, which must have room in its type.
func readNumber[T whole](r *reader) T {
	v := r.number()
	if int64(T(v)) != v {
		r.lost = true
		return 0
	}
	return T(v)
}

func readList[T any](r *reader, least int, each func(*reader) T) []T {
	n := r.count(least)
	if n == 0 {
		return nil
	}
	l := make([]T, n)
	for i := range l {
		l[i] = each(r)
	}
	return l
}

func readIns(r *reader) api.Ins {
	var in api.Ins
	for _, v := range [...]*int{&in.Op, &in.D, &in.A, &in.B, &in.C} {
		*v = readNumber[int](r)
	}
	in.V = readNumber[int64](r)
	return in
}

func read(r *reader) api.Object {
	var o api.Object
	for _, l := range [...]*[]int{&o.In, &o.Out} {
		*l = readList(r, leastNumber, readNumber[int])
	}
	for _, l := range [...]*[]int64{&o.State, &o.Mem} {
		*l = readList(r, leastNumber, readNumber[int64])
	}
	for _, v := range [...]*int{&o.Cross, &o.Flags} {
		*v = readNumber[int](r)
	}
	for _, l := range [...]*[]api.Ins{&o.Deriv, &o.Zero, &o.Step, &o.At} {
		*l = readList(r, leastIns, readIns)
	}
	return o
}
