package verify

import (
	"math"
	"reflect"
	"slices"
	"strings"
	"testing"

	"astrolabe/api"
	"astrolabe/check"
	"astrolabe/lower"
)

// checkObject holds what is told of an object against the model.
func checkObject(t *testing.T, what string, o api.Object) bool {
	t.Helper()
	right, want := Right(o), modelRight(o)
	if right != want {
		t.Fatalf("%s: %v, wanted %v: %+v", what, right, want, o)
	}
	piece, number, wrong := Wrong(o)
	if p, n, w := modelWrong(o); piece != p || number != n || wrong != w {
		t.Fatalf("%s: %d %d %v, wanted %d %d %v: %+v", what, piece, number, wrong, p, n, w, o)
	}
	for _, l := range [][]api.Ins{o.Deriv, o.Zero, o.Step, o.At} {
		if n := Registers(l); n != modelCount(l) {
			t.Fatalf("%s: %d registers, wanted %d: %v", what, n, modelCount(l), l)
		}
	}
	if n := Most(o); n != len(o.Deriv)+len(o.Zero)+len(o.Step)+len(o.At) {
		t.Fatalf("%s: at most %d: %+v", what, n, o)
	}
	return right
}

// some has other numbers of things in each of its banks.
func some() api.Object {
	return api.Object{In: []int{1, 2, 1, 2, 2}, Out: []int{2, 1, 1, 2}, State: make([]int64, 3), Mem: make([]int64, 2), Cross: 6, Flags: 3}
}

func with(o api.Object, piece int, l ...api.Ins) api.Object {
	*[]*[]api.Ins{&o.Deriv, &o.Zero, &o.Step, &o.At}[piece] = l
	return o
}

// The examples, and what the document names.
func TestRight(t *testing.T) { // P17.1
	if !Right(api.Object{}) || Right(api.Object{Step: []api.Ins{{Op: api.InPut}}}) {
		t.Error("examples")
	}
	for _, c := range []struct {
		piece int
		x     api.Ins
		want  bool
	}{
		{0, api.Ins{Op: api.InConst, V: math.MinInt64}, true}, {2, api.Ins{Op: api.InConst, D: 3999, V: math.MaxInt64}, true}, {3, api.Ins{Op: api.InConst, D: 4000}, false}, {0, api.Ins{Op: api.InConst, D: -1}, false},
		{1, api.Ins{Op: api.InIn, A: 4}, true}, {1, api.Ins{Op: api.InIn, A: 5}, false}, {1, api.Ins{Op: api.InIn, V: 1}, false},
		{2, api.Ins{Op: api.InState, A: 2}, true}, {2, api.Ins{Op: api.InState, A: 3}, false}, {3, api.Ins{Op: api.InMem, A: 1}, true}, {3, api.Ins{Op: api.InMem, A: 2}, false},
		{2, api.Ins{Op: api.InCross, A: 5}, true}, {2, api.Ins{Op: api.InCross, A: 6}, false}, {0, api.Ins{Op: api.InCross}, false}, {1, api.Ins{Op: api.InCross}, false}, {3, api.Ins{Op: api.InCross}, false},
		{0, api.Ins{Op: api.InSqrt, A: 3999}, true}, {0, api.Ins{Op: api.InSqrt, A: 4000}, false}, {0, api.Ins{Op: api.InSqrt, B: 1}, false},
		{0, api.Ins{Op: api.InOr, B: 3999}, true}, {0, api.Ins{Op: api.InOr, B: 4000}, false}, {0, api.Ins{Op: api.InOr, C: 1}, false},
		{0, api.Ins{Op: api.InPick, C: 3999}, true}, {0, api.Ins{Op: api.InPick, C: 4000}, false}, {0, api.Ins{Op: api.InPick, V: -1}, false},
		{0, api.Ins{Op: api.InPut, D: 2}, true}, {0, api.Ins{Op: api.InPut, D: 3}, false}, {1, api.Ins{Op: api.InPut, D: 5}, true}, {1, api.Ins{Op: api.InPut, D: 6}, false},
		{3, api.Ins{Op: api.InPut, D: 3}, true}, {3, api.Ins{Op: api.InPut, D: 4}, false}, {2, api.Ins{Op: api.InPut}, false}, {0, api.Ins{Op: api.InPut, A: 3999}, true}, {0, api.Ins{Op: api.InPut, A: 4000}, false},
		{2, api.Ins{Op: api.InStore, D: 1, A: 3999}, true}, {2, api.Ins{Op: api.InStore, D: 2}, false}, {2, api.Ins{Op: api.InStore, A: -1}, false}, {3, api.Ins{Op: api.InStore}, false},
		{2, api.Ins{Op: api.InSet, D: 2, A: 3999}, true}, {2, api.Ins{Op: api.InSet, D: 3}, false}, {2, api.Ins{Op: api.InSet, A: 4000}, false}, {1, api.Ins{Op: api.InSet}, false},
		{2, api.Ins{Op: api.InSkip, A: 3999}, true}, {2, api.Ins{Op: api.InSkip, A: 4000}, false}, {2, api.Ins{Op: api.InSkip, B: 1}, false}, {2, api.Ins{Op: api.InSkip, C: 1}, false}, {0, api.Ins{Op: api.InSkip}, false},
		{2, api.Ins{Op: 0}, false}, {0, api.Ins{Op: 23}, false}, {3, api.Ins{Op: -1}, false}, {1, api.Ins{Op: math.MaxInt}, false}, {1, api.Ins{Op: math.MinInt}, false},
	} {
		o := with(some(), c.piece, c.x)
		if checkObject(t, "instruction", o) != c.want {
			t.Errorf("%d %+v: %v", c.piece, c.x, !c.want)
		}
	}
}

// Each Op in each piece, each of its numbers at each end of what may be somewhere, and beyond it.
func TestNumbers(t *testing.T) { // P17.1, P17.2
	numbers := []int{math.MinInt, math.MinInt32, -4000, -1, 0, 1, 2, 3, 4, 5, 6, 7, 199, 200, 201, 3998, 3999, 4000, 4001, math.MaxInt32, 1 << 32, math.MaxInt - 1}
	rightOnes := 0
	for op := -3; op < 27; op++ {
		for piece := range 4 {
			for _, n := range numbers {
				for _, x := range []api.Ins{{Op: op, D: n}, {Op: op, A: n}, {Op: op, B: n}, {Op: op, C: n}, {Op: op, V: int64(n)}, {Op: op, D: n, A: n, B: n, C: n}} {
					o := with(some(), piece, api.Ins{Op: api.InConst}, x, api.Ins{Op: api.InConst}, api.Ins{Op: api.InConst}, api.Ins{Op: api.InConst})
					if checkObject(t, "number", o) {
						rightOnes++
					}
					checkObject(t, "number, alone", with(some(), piece, x))
					checkObject(t, "number, of nothing", with(api.Object{}, piece, x))
				}
			}
		}
	}
	if rightOnes < 500 {
		t.Error(rightOnes)
	}
}

// A skip may go to the end of its piece, wherever it stands.
func TestSkip(t *testing.T) { // P17.1
	for n := 1; n < 8; n++ {
		for i := range n {
			for b := -1; b < 9; b++ {
				l := make([]api.Ins, n)
				for k := range l {
					l[k].Op = api.InConst
				}
				l[i] = api.Ins{Op: api.InSkip, B: b}
				o := with(some(), 2, l...)
				if want := b >= 0 && i+1+b <= n; checkObject(t, "skip", o) != want {
					t.Errorf("%d of %d, by %d: %v", i, n, b, !want)
				}
			}
		}
	}
	o := some()
	o.Step = slices.Repeat([]api.Ins{{Op: api.InSkip}}, api.MaxCode)
	o.Step[0].B = api.MaxCode - 1
	if !checkObject(t, "a whole piece", o) {
		t.Error("a whole piece")
	}
	o.Step[0].B++
	if checkObject(t, "beyond", o) {
		t.Error("beyond")
	}
}

// Banks, and what goes with them, as great as they may be, and beyond.
func TestBanks(t *testing.T) { // P17.1
	for what, c := range map[string]struct {
		turn func(o *api.Object)
		want bool
	}{
		"200 in":           {func(o *api.Object) { o.In = slices.Repeat([]int{2}, 200) }, true},
		"201 in":           {func(o *api.Object) { o.In = slices.Repeat([]int{2}, 201) }, false},
		"200 out":          {func(o *api.Object) { o.Out = slices.Repeat([]int{1}, 200) }, true},
		"201 out":          {func(o *api.Object) { o.Out = slices.Repeat([]int{1}, 201) }, false},
		"200 states":       {func(o *api.Object) { o.State = make([]int64, 200) }, true},
		"201 states":       {func(o *api.Object) { o.State = make([]int64, 201) }, false},
		"200 memories":     {func(o *api.Object) { o.Mem = make([]int64, 200) }, true},
		"201 memories":     {func(o *api.Object) { o.Mem = make([]int64, 201) }, false},
		"any states":       {func(o *api.Object) { o.State = []int64{math.MinInt64, math.MaxInt64} }, true},
		"any memories":     {func(o *api.Object) { o.Mem = []int64{math.MinInt64, math.MaxInt64} }, true},
		"in 0":             {func(o *api.Object) { o.In = []int{1, 2, 0} }, false},
		"in 3":             {func(o *api.Object) { o.In = []int{3, 2, 1} }, false},
		"in -1":            {func(o *api.Object) { o.In = []int{-1} }, false},
		"out 0":            {func(o *api.Object) { o.Out = []int{1, 2, 0} }, false},
		"out 3":            {func(o *api.Object) { o.Out = []int{3, 2, 1} }, false},
		"out, the least":   {func(o *api.Object) { o.Out = []int{math.MinInt} }, false},
		"no crossings":     {func(o *api.Object) { o.Cross = 0 }, true},
		"200 crossings":    {func(o *api.Object) { o.Cross = 200 }, true},
		"201 crossings":    {func(o *api.Object) { o.Cross = 201 }, false},
		"-1 crossings":     {func(o *api.Object) { o.Cross = -1 }, false},
		"most crossings":   {func(o *api.Object) { o.Cross = math.MaxInt }, false},
		"fewest crossings": {func(o *api.Object) { o.Cross = math.MinInt }, false},
		"no flags":         {func(o *api.Object) { o.Flags = 0 }, true},
		"flags 1":          {func(o *api.Object) { o.Flags = 1 }, true},
		"flags 2":          {func(o *api.Object) { o.Flags = 2 }, true},
		"flags 4":          {func(o *api.Object) { o.Flags = 4 }, false},
		"flags 7":          {func(o *api.Object) { o.Flags = 7 }, false},
		"flags -1":         {func(o *api.Object) { o.Flags = -1 }, false},
		"flags, the least": {func(o *api.Object) { o.Flags = math.MinInt }, false},
	} {
		o := some()
		c.turn(&o)
		if checkObject(t, what, o) != c.want {
			t.Errorf("%s: %v", what, !c.want)
		}
		if _, _, wrong := Wrong(o); wrong {
			t.Errorf("%s: an instruction", what)
		}
	}
}

// A piece has at most so many instructions, each of them.
func TestMaxCode(t *testing.T) { // P17.1, P17.3
	for piece := range 4 {
		for _, n := range []int{api.MaxCode - 1, api.MaxCode, api.MaxCode + 1, 2 * api.MaxCode} {
			l := slices.Repeat([]api.Ins{{Op: api.InConst}}, n)
			o := with(some(), piece, l...)
			if right := checkObject(t, "long", o); right != (n <= api.MaxCode) {
				t.Errorf("%d of %d: %v", piece, n, right)
			}
			if p, i, wrong := Wrong(o); p != 0 || i != 0 || wrong {
				t.Errorf("%d of %d: %d %d %v", piece, n, p, i, wrong)
			}
			l[n-1].C = 1
			if p, i, wrong := Wrong(o); p != piece || i != n-1 || !wrong {
				t.Errorf("%d of %d, and the last one wrong: %d %d %v", piece, n, p, i, wrong)
			}
			checkObject(t, "long, and wrong", o)
		}
	}
	all := slices.Repeat([]api.Ins{{Op: api.InNot}}, api.MaxCode)
	o := api.Object{Deriv: all, Zero: all, Step: all, At: all}
	if !checkObject(t, "as many as may be", o) || Most(o) != 16000 {
		t.Error(Most(o))
	}
}

// The first wrong one: pieces in their order, whatever else there is.
func TestWrong(t *testing.T) { // P17.1
	bad, good := api.Ins{}, api.Ins{Op: api.InConst}
	o := api.Object{In: []int{9}, Out: make([]int, 300), State: make([]int64, 300), Mem: make([]int64, 300), Cross: -5, Flags: 77}
	if p, n, wrong := Wrong(o); p != 0 || n != 0 || wrong {
		t.Error(p, n, wrong)
	}
	for piece := 3; piece >= 0; piece-- {
		o = with(o, piece, good, good, bad, good, bad)
		if p, n, wrong := Wrong(o); p != piece || n != 2 || !wrong {
			t.Errorf("%d: %d %d %v", piece, p, n, wrong)
		}
		if Right(with(api.Object{}, piece, good, bad)) {
			t.Errorf("%d: right", piece)
		}
	}
	// What banks have counts as it stands, though it may not be.
	o.Cross = 1 << 40
	o.Deriv = []api.Ins{{Op: api.InPut, D: 299}, {Op: api.InState, A: 299}, {Op: api.InMem, A: 299}, {Op: api.InIn}}
	o.Zero = []api.Ins{{Op: api.InPut, D: 1<<40 - 1}}
	o.Step = []api.Ins{{Op: api.InCross, A: 1<<40 - 1}, {Op: api.InStore, D: 299}, {Op: api.InSet, D: 299}}
	o.At = []api.Ins{{Op: api.InPut, D: 299}, {Op: api.InPut, D: 300}}
	if p, n, wrong := Wrong(o); p != 3 || n != 1 || !wrong {
		t.Error(p, n, wrong)
	}
	o.Cross = -5
	if p, n, wrong := Wrong(o); p != 1 || n != 0 || !wrong {
		t.Error(p, n, wrong)
	}
	checkObject(t, "whatever else", o)
}

func TestRegisters(t *testing.T) { // P17.2
	if Registers(nil) != 0 || Registers([]api.Ins{}) != 0 {
		t.Error("of none")
	}
	for _, c := range []struct {
		x    api.Ins
		want int
	}{
		{api.Ins{Op: api.InConst, D: 5, A: 9, B: 9, C: 9, V: 9}, 6}, {api.Ins{Op: api.InIn, A: 9}, 1}, {api.Ins{Op: api.InState, D: 3999, A: 4000}, 4000}, {api.Ins{Op: api.InMem, D: -1, A: 9}, 0}, {api.Ins{Op: api.InCross, D: 2, A: 9, B: 9}, 3},
		{api.Ins{Op: api.InNeg, A: 9, B: 10}, 10}, {api.Ins{Op: api.InSqrt, D: 9, C: 10}, 10}, {api.Ins{Op: api.InAdd, B: 9, C: 10}, 10}, {api.Ins{Op: api.InOr, A: 9, B: 8, C: 10}, 10}, {api.Ins{Op: api.InPick, C: 9}, 10},
		{api.Ins{Op: api.InSkip, D: 9, A: 3, B: 9, C: 9}, 4}, {api.Ins{Op: api.InPut, D: 9, A: 3, B: 9, C: 9}, 4}, {api.Ins{Op: api.InStore, D: 9, A: 3, B: 9, C: 9}, 4}, {api.Ins{Op: api.InSet, D: 9, A: 3, B: 9, C: 9}, 4},
		{api.Ins{Op: 0, D: 9, A: 9, B: 9, C: 9}, 0}, {api.Ins{Op: 23, D: 9, A: 9, B: 9, C: 9}, 0}, {api.Ins{Op: -1, D: 9, A: 9}, 0},
		{api.Ins{Op: api.InPick, D: -1, A: -2, B: -3, C: math.MinInt}, 0}, {api.Ins{Op: api.InPick, D: -1, A: 0, B: -3}, 1}, {api.Ins{Op: api.InAdd, D: 1 << 40}, 1<<40 + 1}, {api.Ins{Op: api.InNeg, A: math.MaxInt - 1}, math.MaxInt},
		// One more than this there isn't.
		{api.Ins{Op: api.InNeg, D: math.MaxInt}, math.MaxInt},
	} {
		if n := Registers([]api.Ins{c.x}); n != c.want {
			t.Errorf("%+v: %d, wanted %d", c.x, n, c.want)
		}
		if n := Registers([]api.Ins{{Op: api.InConst, D: 2}, c.x, {Op: 30, D: 4}}); n != max(3, c.want) {
			t.Errorf("%+v beside others: %d, wanted %d", c.x, n, max(3, c.want))
		}
	}
}

func TestMost(t *testing.T) { // P17.3
	o := api.Object{Deriv: make([]api.Ins, 1), Zero: make([]api.Ins, 20), Step: make([]api.Ins, 300), At: make([]api.Ins, 5000)}
	if Most(o) != 5321 || Most(api.Object{}) != 0 {
		t.Error(Most(o))
	}
	// Whether a skip skips hangs on what is handed in.
	o = with(some(), 2, api.Ins{Op: api.InCross}, api.Ins{Op: api.InSkip, B: 2}, api.Ins{Op: api.InConst}, api.Ins{Op: api.InConst})
	if Most(o) != 4 {
		t.Error(Most(o))
	}
}

// Objects drawn: some right ones among them, and wrong ones of each kind.
func TestDrawn(t *testing.T) { // P17.1, P17.2, P17.3
	d := &drawer{state: 1}
	rightOnes := 0
	for i := range 60_000 {
		if checkObject(t, "drawn", d.object(1+i%12)) {
			rightOnes++
		}
	}
	if rightOnes < 6000 || rightOnes > 54_000 {
		t.Error(rightOnes)
	}
}

// Any numbers anywhere.
func TestAny(t *testing.T) { // P17.1, P17.2, rule 1
	d := &drawer{state: 2}
	number := func() int { return d.place(1 + d.below(4)) }
	for range 40_000 {
		o := api.Object{Cross: number(), Flags: number(), State: make([]int64, d.below(3)), Out: make([]int, d.below(3))}
		for piece := range 4 {
			var l []api.Ins
			for range d.below(4) {
				l = append(l, api.Ins{Op: d.below(26) - 2, D: number(), A: number(), B: number(), C: number() * d.below(2), V: int64(number()) * int64(d.below(2))})
			}
			o = with(o, piece, l...)
		}
		checkObject(t, "any", o)
	}
}

// What is handed in stays as it was, its spare room too; asked twice it is told the same.
func TestStays(t *testing.T) { // rules 5, 6
	d := &drawer{state: 3}
	for range 300 {
		o := d.object(6)
		for _, l := range []*[]api.Ins{&o.Deriv, &o.Zero, &o.Step, &o.At} {
			spare := append(slices.Clone(*l), api.Ins{Op: 7}, api.Ins{Op: 8})
			*l = spare[: len(spare)-2 : len(spare)]
		}
		whole := func() []api.Object {
			p := o
			for _, l := range []*[]api.Ins{&p.Deriv, &p.Zero, &p.Step, &p.At} {
				*l = slices.Clone((*l)[:cap(*l)])
			}
			p.In, p.Out, p.State, p.Mem = slices.Clone(o.In), slices.Clone(o.Out), slices.Clone(o.State), slices.Clone(o.Mem)
			return []api.Object{p}
		}
		had := whole()
		first := checkObject(t, "first", o)
		if checkObject(t, "again", o) != first || !reflect.DeepEqual(whole(), had) {
			t.Fatalf("changed: %+v", o)
		}
	}
}

// checkMade: what is made of a text may be, and tells how many registers and instructions it has.
func checkMade(t *testing.T, text string) api.Object {
	t.Helper()
	p, fault := check.Text(text)
	if fault.Code != api.OK {
		t.Fatalf("%.900s: %v", text, fault)
	}
	o, fault := lower.Object(p)
	if fault.Code != api.OK {
		t.Fatalf("%.900s: %v", text, fault)
	}
	if !checkObject(t, text, o) {
		p, n, _ := Wrong(o)
		t.Fatalf("%.200s: %d %d may not be", text, p, n)
	}
	return o
}

func TestMade(t *testing.T) { // P17.4
	for _, s := range []string{
		"hybrid m() { }",
		"hybrid m() { der x = 1 init 0; out x; }",
		"hybrid m(u: fix, b: bool) { der x = -u init 2147483647 + 1; let l: bool = b and x < 3; mem k: bool init 1 < 2; reset x on x - 3 = 0 fby -x; on x set k = true -> not l; out k; out l; out x; }",
	} {
		checkMade(t, s)
	}
	// As great as they may be.
	o := checkMade(t, "hybrid m(v: fix) { der x = 1 / 0 init 1 / 0 + 1; "+strings.Repeat("reset x on v = x; ", 200)+strings.Repeat("out x; ", 200)+"}")
	if o.Cross != 200 || len(o.Out) != 200 || o.Flags != 3 {
		t.Error(o.Cross, len(o.Out), o.Flags)
	}
	o = checkMade(t, "hybrid m() { mem k: fix init 0; on 1 set k = "+strings.Repeat("1 + ", 1998)+"1; }")
	if len(o.Step) != 4000 || Registers(o.Step) != 3998 {
		t.Error(len(o.Step), Registers(o.Step))
	}
	d := &drawer{state: 4}
	cells, crossings := 0, 0
	for i := range 1500 {
		o := checkMade(t, d.text(1+i%4))
		cells, crossings = cells+len(o.Mem)-3, crossings+o.Cross
	}
	if cells < 1000 || crossings < 1000 {
		t.Error(cells, crossings)
	}
}
