package code

import (
	"bytes"
	"math"
	"reflect"
	"runtime"
	"slices"
	"strings"
	"testing"

	"astrolabe/api"
	"astrolabe/check"
	"astrolabe/lower"
)

const (
	most  = math.MaxInt64
	least = math.MinInt64
)

// checkObject holds an object against its bytes, both ways.
func checkObject(t *testing.T, what string, o api.Object) {
	t.Helper()
	b, want := Bytes(o), modelBytes(o)
	if !slices.Equal(b, want) {
		t.Fatalf("%s: %v, wanted %v", what, b, want)
	}
	if n := Size(o); n != len(want) {
		t.Errorf("%s: size %d, wanted %d", what, n, len(want))
	}
	back, ok := Object(b)
	if !ok || !slices.Equal(numbersOf(back), numbersOf(o)) || !Same(o, back) || !Same(back, o) {
		t.Errorf("%s: %v %v, wanted %v", what, back, ok, o)
	}
	checkNils(t, what, back)
}

// checkNils: what has none is nil.
func checkNils(t *testing.T, what string, o api.Object) {
	t.Helper()
	v := reflect.ValueOf(o)
	for i := range v.NumField() {
		if f := v.Field(i); f.Kind() == reflect.Slice && f.Len() == 0 && !f.IsNil() {
			t.Errorf("%s: %s is empty and not nil", what, v.Type().Field(i).Name)
		}
	}
}

func checkNone(t *testing.T, what string, b []byte) {
	t.Helper()
	if o, ok := Object(b); ok || !reflect.DeepEqual(o, api.Object{}) {
		t.Errorf("%s: %v: %v %v", what, b, o, ok)
	}
}

// checkTold holds what bytes tell against the model.
func checkTold(t *testing.T, b []byte) bool {
	t.Helper()
	want, right := modelObject(b)
	o, ok := Object(b)
	if ok != right || !reflect.DeepEqual(o, want) {
		t.Fatalf("%v: %v %v, wanted %v %v", b, o, ok, want, right)
	}
	return ok
}

// some has something in each of its parts.
func some() api.Object {
	return api.Object{
		In: []int{1, 2}, Out: []int{2}, State: []int64{-1, 64}, Mem: []int64{api.One}, Cross: 1, Flags: 3,
		Deriv: []api.Ins{{Op: api.InConst, V: api.One}, {Op: api.InPut}}, Zero: []api.Ins{{Op: api.InState, A: 1}},
		Step: []api.Ins{{Op: api.InSkip, A: 7, B: -1}}, At: []api.Ins{{Op: api.InPick, D: 4, A: 1, B: 2, C: 3, V: -5}},
	}
}

// Bytes that were worked out by hand.
func TestBytes(t *testing.T) { // P16.1
	for _, c := range []struct {
		o    api.Object
		want []byte
	}{
		{api.Object{}, []byte{65, 83, 84, 49, 0, 0, 0, 0, 0, 0, 0, 0, 0, 0, 206, 153, 37, 29}},
		{some(), []byte{65, 83, 84, 49, 4, 2, 4, 2, 4, 4, 1, 128, 1, 2, 128, 128, 128, 128, 32, 2, 6, 4, 2, 0, 0, 0, 0, 128, 128, 128, 128, 32, 40, 0, 0, 0, 0, 0, 2, 6, 0, 2, 0, 0, 0, 2, 38, 0, 14, 1, 0, 0, 2, 36, 8, 2, 4, 6, 9, 2, 53, 249, 155}},
	} {
		if b := Bytes(c.o); !slices.Equal(b, c.want) || Size(c.o) != len(c.want) {
			t.Errorf("%v: %d, %v, wanted %v", c.o, Size(c.o), b, c.want)
		}
		if o, ok := Object(c.want); !ok || !reflect.DeepEqual(o, c.o) {
			t.Errorf("%v: %v %v, wanted %v", c.want, o, ok, c.o)
		}
	}
}

// Empty lists are told as nil ones.
func TestEmpty(t *testing.T) { // P16.1, P16.2
	o := api.Object{In: []int{}, Out: []int{}, State: []int64{}, Mem: []int64{}, Deriv: []api.Ins{}, Zero: []api.Ins{}, Step: []api.Ins{}, At: []api.Ins{}}
	checkObject(t, "empty", o)
	if !slices.Equal(Bytes(o), Bytes(api.Object{})) || !Same(o, api.Object{}) || !Same(api.Object{}, o) {
		t.Error("empty lists aren't nil ones")
	}
}

// Numbers alone, at the ends of each length.
func TestNumbers(t *testing.T) { // P16.1
	bytesOf := func(v int64) []byte {
		b := Bytes(api.Object{State: []int64{v}})
		return b[7 : len(b)-11]
	}
	for v, want := range map[int64][]byte{
		0: {0}, -1: {1}, 1: {2}, -2: {3}, 63: {126}, -64: {127}, 64: {128, 1}, -65: {129, 1}, 8191: {254, 127}, -8192: {255, 127}, 8192: {128, 128, 1}, -8193: {129, 128, 1},
		most:  {254, 255, 255, 255, 255, 255, 255, 255, 255, 1},
		least: {255, 255, 255, 255, 255, 255, 255, 255, 255, 1},
	} {
		if b := bytesOf(v); !slices.Equal(b, want) {
			t.Errorf("%d: %v, wanted %v", v, b, want)
		}
	}
	for i := range 64 {
		for _, v := range []int64{1<<i - 1, 1 << i, 1<<i + 1} {
			for _, v := range []int64{v, -v, ^v} {
				if b := bytesOf(v); !slices.Equal(b, modelNumber(v)) {
					t.Errorf("%d: %v, wanted %v", v, b, modelNumber(v))
				}
			}
		}
	}
}

// setters put a number at each place of an object.
func setters() map[string]func(o *api.Object, v int) {
	l := map[string]func(o *api.Object, v int){
		"in":    func(o *api.Object, v int) { o.In = []int{v} },
		"out":   func(o *api.Object, v int) { o.Out = []int{v} },
		"state": func(o *api.Object, v int) { o.State = []int64{int64(v)} },
		"mem":   func(o *api.Object, v int) { o.Mem = []int64{int64(v)} },
		"cross": func(o *api.Object, v int) { o.Cross = v },
		"flags": func(o *api.Object, v int) { o.Flags = v },
	}
	pieces := map[string]func(o *api.Object) *[]api.Ins{
		"deriv": func(o *api.Object) *[]api.Ins { return &o.Deriv }, "zero": func(o *api.Object) *[]api.Ins { return &o.Zero },
		"step": func(o *api.Object) *[]api.Ins { return &o.Step }, "at": func(o *api.Object) *[]api.Ins { return &o.At },
	}
	fields := map[string]func(v int) api.Ins{
		"op": func(v int) api.Ins { return api.Ins{Op: v} }, "d": func(v int) api.Ins { return api.Ins{D: v} }, "a": func(v int) api.Ins { return api.Ins{A: v} },
		"b": func(v int) api.Ins { return api.Ins{B: v} }, "c": func(v int) api.Ins { return api.Ins{C: v} }, "v": func(v int) api.Ins { return api.Ins{V: int64(v)} },
	}
	for name, piece := range pieces {
		for field, with := range fields {
			l[name+" "+field] = func(o *api.Object, v int) { *piece(o) = []api.Ins{with(v)} }
		}
	}
	return l
}

// Any number may stand at any place, and makes a difference there.
func TestPlaces(t *testing.T) { // P16.1, P16.2, P16.3
	for what, set := range setters() {
		var l []api.Object
		for _, v := range []int{0, 1, -1, 2, -2, 63, 64, -64, -65, 23, 300, 4001, math.MaxInt32, math.MaxInt32 + 1, math.MinInt32 - 1, most, most - 1, least, least + 1} {
			var o api.Object
			set(&o, v)
			checkObject(t, what, o)
			for _, other := range l {
				if Same(o, other) || Same(other, o) || slices.Equal(Bytes(o), Bytes(other)) {
					t.Errorf("%s: %v is %v", what, o, other)
				}
			}
			l = append(l, o)
			beside := some()
			set(&beside, v)
			checkObject(t, what+" beside others", beside)
		}
	}
}

// changes are objects that are like some in all but one thing.
func changes() map[string]api.Object {
	l := map[string]api.Object{}
	change := func(what string, with func(o *api.Object)) {
		o := some()
		with(&o)
		l[what] = o
	}
	change("no in", func(o *api.Object) { o.In = nil })
	change("in and out", func(o *api.Object) { o.In, o.Out = o.In[:1], []int{2, 2} })
	change("in turned", func(o *api.Object) { o.In = []int{2, 1} })
	change("one in less", func(o *api.Object) { o.In = o.In[:1] })
	change("one out more", func(o *api.Object) { o.Out = append(o.Out, 0) })
	change("state as mem", func(o *api.Object) { o.State, o.Mem = o.Mem, o.State })
	change("a state as mem", func(o *api.Object) { o.State, o.Mem = o.State[:1], []int64{64, api.One} })
	change("one mem more", func(o *api.Object) { o.Mem = append(o.Mem, 0) })
	change("cross as flags", func(o *api.Object) { o.Cross, o.Flags = o.Flags, o.Cross })
	change("deriv as zero", func(o *api.Object) { o.Deriv, o.Zero = o.Zero, o.Deriv })
	change("zero as step", func(o *api.Object) { o.Zero, o.Step = o.Step, o.Zero })
	change("step as at", func(o *api.Object) { o.Step, o.At = o.At, o.Step })
	change("put as zero", func(o *api.Object) { o.Zero, o.Deriv = append(o.Deriv[1:], o.Zero...), o.Deriv[:1] })
	change("deriv turned", func(o *api.Object) { slices.Reverse(o.Deriv) })
	change("one of deriv less", func(o *api.Object) { o.Deriv = o.Deriv[:1] })
	change("an empty one more", func(o *api.Object) { o.At = append(o.At, api.Ins{}) })
	change("no at", func(o *api.Object) { o.At = nil })
	change("nothing", func(o *api.Object) { *o = api.Object{} })
	return l
}

func TestSame(t *testing.T) { // P16.2, P16.3
	if !Same(some(), some()) || !Same(api.Object{}, api.Object{}) {
		t.Error("not the same as itself")
	}
	l := changes()
	for what, o := range l {
		checkObject(t, what, o)
		if Same(o, some()) || Same(some(), o) || slices.Equal(Bytes(o), Bytes(some())) {
			t.Errorf("%s: the same", what)
		}
		for other, x := range l {
			if Same(o, x) != (other == what) {
				t.Errorf("%s, %s: %v", what, other, Same(o, x))
			}
		}
	}
}

func TestDrawn(t *testing.T) { // P16.1, P16.2, P16.3
	d := &drawer{state: 1}
	had := some()
	for i := range 6000 {
		o := d.object(1 + i%9)
		checkObject(t, "drawn", o)
		same := slices.Equal(Bytes(o), Bytes(had))
		if Same(o, had) != same || reflect.DeepEqual(o, had) != same {
			t.Errorf("%v, %v: %v", o, had, Same(o, had))
		}
		had = o
	}
}

// Bytes that are no object's, though their sum is right.
func TestNone(t *testing.T) { // P16.1, P16.3
	body := func(l ...byte) []byte { return append([]byte("AST1"), l...) }
	// Numbers that stand where the first state does, another one behind it.
	first := func(l ...byte) []byte {
		return append(append(body(0, 0, 4), l...), 0, 0, 0, 0, 0, 0, 0, 0)
	}
	ff := func(n int, last ...byte) []byte { return append(bytes.Repeat([]byte{255}, n), last...) }
	zeros := func(n int, last ...byte) []byte { return append(bytes.Repeat([]byte{128}, n), last...) }
	none := map[string][]byte{
		"nothing": nil, "signs": body(), "another sign": []byte("AST2"), "lower signs": []byte("ast1\x00\x00\x00\x00\x00\x00\x00\x00\x00\x00"),
		"other signs": []byte("AST\x01\x00\x00\x00\x00\x00\x00\x00\x00\x00\x00"), "turned signs": []byte("1TSA\x00\x00\x00\x00\x00\x00\x00\x00\x00\x00"),
		"no signs": make([]byte, 10), "signs twice": []byte("AST1AST1\x00\x00\x00\x00\x00\x00\x00\x00\x00\x00"),
		"a piece less": body(0, 0, 0, 0, 0, 0, 0, 0, 0), "a list more": body(0, 0, 0, 0, 0, 0, 0, 0, 0, 0, 0), "a number more": body(0, 0, 0, 0, 0, 0, 0, 0, 0, 0, 2),
		"fewer than none": body(1, 0, 0, 0, 0, 0, 0, 0, 0, 0), "a piece of fewer than none": body(0, 0, 0, 0, 0, 0, 0, 0, 0, 1), "fewer mems": body(0, 0, 0, 3, 0, 0, 0, 0, 0, 0),
		"a list of one, and none": body(2), "one more than there are": body(0, 0, 0, 0, 0, 0, 0, 0, 0, 2, 0, 0, 0, 0, 0), "an in more": body(22, 0, 0, 0, 0, 0, 0, 0, 0, 0, 0),
		"a number that goes on": body(0, 0, 0, 0, 0, 0, 0, 0, 0, 128), "all goes on": body(zeros(10)...),
		"0 in two": first(128, 0), "0 in three": first(128, 128, 0), "1 in two": first(130, 0), "-1 in two": first(129, 0), "63 in two": first(254, 0), "64 in three": first(128, 129, 0),
		"0 in ten": first(zeros(9, 0)...), "1 in ten": first(append([]byte{130}, zeros(8, 0)...)...), "2 to the 62 in ten": first(zeros(8, 255, 0)...),
		"2 to the 65": first(zeros(9, 2)...), "all and 2 to the 65": first(ff(9, 3)...), "a last byte of 127": first(ff(9, 127)...), "of 126": first(ff(9, 126)...), "eleven bytes": first(ff(10, 1)...),
		"eleven, the last one 0": first(ff(9, 129, 0)...), "eleven, of 0": first(zeros(10, 0)...), "eleven, of 1": first(zeros(10, 1)...), "twenty": first(zeros(19, 1)...), "ten that go on": first(zeros(10)...),
	}
	for what, b := range none {
		checkNone(t, what, sealed(b))
		checkTold(t, sealed(b))
	}
	for what, b := range map[string][]byte{"one byte": first(0), "127": first(127), "two": first(128, 1), "nine": first(ff(8, 127)...), "ten": first(zeros(9, 1)...), "ten of all": first(ff(9, 1)...)} {
		if !checkTold(t, sealed(b)) {
			t.Errorf("%s: none", what)
		}
	}
}

// Each number in more bytes than it has tells nothing.
func TestFewest(t *testing.T) { // P16.1, P16.3
	numbers := numbersOf(some())
	for i, v := range numbers {
		ahead, behind := written(numbers[:i]), written(numbers[i+1:])[4:]
		for _, more := range [][]byte{{0}, {128, 0}, {128, 128, 128, 0}, {128, 128, 128, 128, 128, 128, 128, 128, 0}, {128, 128, 128, 128, 128, 128, 128, 128, 128, 0}} {
			longer := modelNumber(v)
			longer[len(longer)-1] |= 128
			longer = append(longer, more...)
			checkNone(t, "longer", sealed(slices.Concat(ahead, longer, behind)))
		}
		if !checkTold(t, sealed(slices.Concat(ahead, modelNumber(v), behind))) {
			t.Error(i, "none")
		}
	}
}

// Bytes with a wrong sum tell nothing.
func TestSum(t *testing.T) { // P16.1, P16.3
	for _, o := range []api.Object{{}, some()} {
		whole := Bytes(o)
		end := len(whole) - 4
		for i := range whole {
			for c := range 256 {
				b := slices.Clone(whole)
				b[i] = byte(c)
				if byte(c) != whole[i] {
					checkNone(t, "changed", b)
				}
			}
			checkNone(t, "cut", whole[:i])
			checkNone(t, "cut ahead", whole[i+1:])
			checkNone(t, "one less", slices.Delete(slices.Clone(whole), i, i+1))
			checkNone(t, "one more", slices.Insert(slices.Clone(whole), i, 0))
		}
		checkNone(t, "longer", append(slices.Clone(whole), 0))
		checkNone(t, "twice", append(slices.Clone(whole), whole...))
		checkNone(t, "two sums", sealed(whole))
		turned := slices.Clone(whole)
		slices.Reverse(turned[end:])
		checkNone(t, "the highest one first", turned)
		checkNone(t, "without a sum", whole[:end])
		checkNone(t, "of all but the signs", append(whole[:end:end], sealed(whole[4:end])[end-4:]...))
		checkNone(t, "of the signs alone", append(whole[:end:end], sealed(whole[:4])[4:]...))
		checkNone(t, "a sum of 0", append(whole[:end:end], 0, 0, 0, 0))
	}
}

// An object's bytes that are changed, and have the sum of that, tell what they are, if they are an object's.
func TestChanged(t *testing.T) { // P16.1, P16.3
	body := written(numbersOf(some()))
	told := 0
	ask := func(b []byte) {
		if checkTold(t, sealed(b)) {
			told++
			if o, _ := Object(sealed(b)); !slices.Equal(Bytes(o), sealed(b)) {
				t.Errorf("%v: other bytes", b)
			}
		}
	}
	for i := range body {
		for c := range 256 {
			b := slices.Clone(body)
			b[i] = byte(c)
			ask(b)
			ask(slices.Insert(slices.Clone(body), i, byte(c)))
		}
		ask(body[:i])
		ask(slices.Delete(slices.Clone(body), i, i+1))
	}
	d := &drawer{state: 2}
	for i := range 40_000 {
		b := slices.Clone(written(numbersOf(d.object(1 + i%4))))
		for range 1 + d.below(3) {
			at := 4 + d.below(len(b)-4)
			switch d.below(4) {
			case 0:
				b[at] ^= 1 << d.below(8)
			case 1:
				b = slices.Insert(b, at, byte(d.below(256)))
			case 2:
				b[at] = byte(d.below(256))
			default:
				b = slices.Delete(b, at, min(len(b), at+1+d.below(3)))
			}
			if len(b) == 4 {
				break
			}
		}
		ask(b)
	}
	if told < 10_000 {
		t.Error("too few are told", told)
	}
}

// Any bytes, of those at which something changes, with a right sum and without one.
func TestAny(t *testing.T) { // P16.1, rule 1
	near := []byte{0, 0, 0, 0, 0, 0, 0, 0, 0, 0, 0, 0, 0, 0, 0, 0, 1, 2, 2, 2, 4, 12, 127, 128, 129, 254, 255}
	d := &drawer{state: 3}
	told := 0
	for range 200_000 {
		b := []byte("AST1")
		for range d.below(30) {
			b = append(b, near[d.below(len(near))])
		}
		checkNone(t, "without a sum", b)
		if checkTold(t, sealed(b)) {
			told++
		}
	}
	if told < 50 {
		t.Error("too few are told", told)
	}
	for range 20_000 {
		var b []byte
		for range d.below(40) {
			b = append(b, byte(d.below(256)))
		}
		checkNone(t, "any", b)
		checkNone(t, "any, with a sum", sealed(b))
	}
}

// checkRoom: bytes that are no object's are refused ahead of making what they tell.
func checkRoom(t *testing.T, b []byte) {
	t.Helper()
	var ahead, behind runtime.MemStats
	runtime.ReadMemStats(&ahead)
	checkNone(t, "too many", b)
	runtime.ReadMemStats(&behind)
	if room := behind.TotalAlloc - ahead.TotalAlloc; room > 1<<16 {
		t.Errorf("%d bytes for %v", room, b[:min(len(b), 30)])
	}
}

// A list that is told to be greater than what there is is given no room.
func TestTooMany(t *testing.T) { // P16.1, rule 1
	for _, n := range []int64{1, 2, 1000, 1 << 14, 1 << 17, 1 << 20, 1 << 27, 1 << 31, 1 << 40, 1 << 60, 1<<61 + 1, most/48 + 1, most - 1, most} {
		for _, ahead := range []int{0, 1, 2, 3, 6, 7, 8, 9} {
			checkRoom(t, sealed(written(append(make([]int64, ahead), n))))
		}
	}
	checkRoom(t, sealed(written(append(append(make([]int64, 9), 60_000), make([]int64, 60_001)...))))
	// As many as there are bytes for may be too many of instructions all the same.
	for n := range int64(60) {
		numbers := append(append(make([]int64, 9), n), make([]int64, 360)...)
		for most := range int64(360) {
			if told := checkTold(t, sealed(written(numbers[:10+most]))); told != (most == 6*n) {
				t.Errorf("%d of %d: %v", n, most, told)
			}
		}
	}
}

// great has many in each of its lists.
func great(n int) api.Object {
	d := &drawer{state: 4}
	var o api.Object
	for range n {
		o.In, o.Out = append(o.In, int(d.number())), append(o.Out, int(d.number()))
		o.State, o.Mem = append(o.State, d.number()), append(o.Mem, d.number())
		o.Deriv, o.Zero = append(o.Deriv, d.ins()), append(o.Zero, d.ins())
		o.Step, o.At = append(o.Step, d.ins()), append(o.At, d.ins())
	}
	return o
}

// Lists of any length: those whose numbers have one byte, two, three, and beyond what may be run.
func TestGreat(t *testing.T) { // P16.1, P16.2
	for _, n := range []int{1, 62, 63, 64, 65, 200, 201, 4000, 4001, 8191, 8192, 50_000} {
		checkObject(t, "great", great(n))
	}
}

// Each list alone may have many numbers of one byte each.
func TestLong(t *testing.T) { // P16.1, P16.2
	for _, n := range []int{1, 5, 20, 63, 64, 500, 70_000} {
		for what, o := range map[string]api.Object{
			"in": {In: make([]int, n)}, "out": {Out: make([]int, n)}, "state": {State: make([]int64, n)}, "mem": {Mem: make([]int64, n)},
			"deriv": {Deriv: make([]api.Ins, n)}, "zero": {Zero: make([]api.Ins, n)}, "step": {Step: make([]api.Ins, n)}, "at": {At: make([]api.Ins, n)},
		} {
			checkObject(t, what, o)
		}
	}
}

// The objects of texts.
func TestTexts(t *testing.T) { // P16.1, P16.3, T4
	for _, s := range []string{
		"hybrid m() { }",
		"hybrid m() { der x = 1 init 0; out x; }",
		"hybrid m(u: fix, b: bool) { der x = -u init 2147483647 + 1; let l: bool = b and x < 3; mem k: bool init 1 < 2; reset x on x - 3 = 0 fby -x; on x set k = true -> not l; out k; out l; out x; }",
		"node n(a: fix): fix { let c: fix = 0 fby c + a; return c; } fun f(a: fix): fix = sqrt a * a / 2; hybrid m(u: fix) { mode M {A, B}; from M.A on u goto B; from M.B on f(u) goto A; mem k: fix init -0.5; on u set k = n(if M is B then u else k); out k; }",
		"hybrid m(v: bool) { let l: bool = v; " + strings.Repeat("out l; ", api.MaxBank) + "}",
	} {
		p, fault := check.Text(s)
		if fault.Code != api.OK {
			t.Fatalf("%s: %v", s, fault)
		}
		o, fault := lower.Object(p)
		if fault.Code != api.OK {
			t.Fatalf("%s: %v", s, fault)
		}
		checkObject(t, s, o)
	}
}

// whole reads and writes of other types than those of an object.
func TestWhole(t *testing.T) { // P16.1
	checkWhole(t, []int8{0, 1, -1, 63, -64, 64, 127, -128}, []int64{128, -129, 256, most, least})
	checkWhole(t, []int16{0, -1, math.MaxInt16, math.MinInt16}, []int64{math.MaxInt16 + 1, math.MinInt16 - 1, 1 << 32})
	checkWhole(t, []int32{0, -1, math.MaxInt32, math.MinInt32}, []int64{math.MaxInt32 + 1, math.MinInt32 - 1, most})
	checkWhole(t, []int64{0, -1, most, least}, nil)
	checkWhole(t, []int{0, -1, most, least}, nil)
	checkWhole(t, []uint8{0, 1, 63, 64, 127, 128, 255}, []int64{-1, 256, least})
	checkWhole(t, []uint16{0, math.MaxUint16}, []int64{-1, math.MaxUint16 + 1})
	checkWhole(t, []uint32{0, math.MaxUint32}, []int64{-1, math.MaxUint32 + 1, least})
	checkWhole(t, []api.Errno{api.OK, api.ErrStill, -1}, nil)
}

func checkWhole[T whole](t *testing.T, right []T, beyond []int64) {
	t.Helper()
	for _, v := range right {
		var folded []uint64
		writeNumber(func(u uint64) { folded = append(folded, u) }, v)
		want := 2 * uint64(int64(v))
		if v < 0 {
			want = 2*uint64(-1-int64(v)) + 1
		}
		if len(folded) != 1 || folded[0] != want {
			t.Errorf("%v: %v, wanted %v", v, folded, want)
		}
		r := &reader{rest: modelNumber(int64(v))}
		if back := readNumber[T](r); back != v || r.lost || len(r.rest) > 0 {
			t.Errorf("%v: %v %v", v, back, r)
		}
	}
	for _, v := range beyond {
		r := &reader{rest: modelNumber(v)}
		if back := readNumber[T](r); back != 0 || !r.lost {
			t.Errorf("%v: %v %v", v, back, r)
		}
	}
}

// A reader that is lost reads nothing more.
func TestLost(t *testing.T) { // P16.1
	r := &reader{rest: []byte{2, 2, 2, 2, 2, 2, 2, 2}, lost: true}
	if r.octet() != 0 || r.number() != 0 || r.count(1) != 0 || readNumber[int](r) != 0 || readList(r, 1, readNumber[int]) != nil || readIns(r) != (api.Ins{}) || !reflect.DeepEqual(read(r), api.Object{}) {
		t.Error("something is read")
	}
	if !r.lost || len(r.rest) != 8 {
		t.Error(r)
	}
}

// What is handed in is neither changed nor kept, and no two lists share anything.
func TestOwn(t *testing.T) { // rules 5 and 6
	o := some()
	spare := append(o.State, 77)
	o.State = spare[:2]
	b := Bytes(o)
	Size(o)
	Same(o, some())
	if !reflect.DeepEqual(o, some()) || spare[2] != 77 {
		t.Error("what was handed in is changed")
	}
	kept := slices.Clone(b)
	given := append(slices.Clone(b), 1, 2, 3)[:len(b)]
	one, _ := Object(given)
	two, _ := Object(b)
	if !slices.Equal(given[:len(b)+3], append(slices.Clone(kept), 1, 2, 3)) {
		t.Error("bytes are changed")
	}
	clear(given[:cap(given)])
	if !Same(one, some()) {
		t.Error("bytes are kept")
	}
	checkOwn(t, &one)
	if !Same(two, some()) || !slices.Equal(b, kept) {
		t.Error("objects share something")
	}
	other := Bytes(o)
	clear(other[:cap(other)])
	if !slices.Equal(Bytes(o), kept) || !slices.Equal(b, kept) {
		t.Error("bytes share something")
	}
}

// checkOwn fills an object's lists, and what room they have, one behind the other: none is another one's.
func checkOwn(t *testing.T, o *api.Object) {
	t.Helper()
	checkFilled(t, func(i int) int { return 100 + i }, o.In, o.Out)
	checkFilled(t, func(i int) int64 { return 200 + int64(i) }, o.State, o.Mem)
	checkFilled(t, func(i int) api.Ins { return api.Ins{Op: 300 + i} }, o.Deriv, o.Zero, o.Step, o.At)
}

func checkFilled[T comparable](t *testing.T, with func(i int) T, lists ...[]T) {
	t.Helper()
	for i, l := range lists {
		whole := l[:cap(l)]
		for k := range whole {
			whole[k] = with(i)
		}
	}
	for i, l := range lists {
		if len(l) == 0 || l[0] != with(i) {
			t.Error("shared", i, l)
		}
	}
}
