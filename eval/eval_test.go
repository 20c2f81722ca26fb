package eval

import (
	"math"
	"slices"
	"strconv"
	"strings"
	"testing"

	"astrolabe/api"
	"astrolabe/check"
	"astrolabe/parse"
	"astrolabe/show"
)

const one = api.One

// read is the program of a text that has no fault.
func read(t *testing.T, s string) api.Program {
	t.Helper()
	p, fault := check.Text(s)
	if fault != (api.Fault{}) {
		t.Fatalf("%q: %s", s, check.Say(s, fault))
	}
	return p
}

// parsed is the program of a text that may have faults.
func parsed(t *testing.T, s string) api.Program {
	t.Helper()
	p, fault := parse.Parse(s)
	if fault != (api.Fault{}) {
		t.Fatalf("%q: %v", s, fault)
	}
	return p
}

// hybridOf is the number of a program's hybrid, and it.
func hybridOf(p api.Program) (int, api.Decl) {
	d := slices.IndexFunc(p.Decls, func(d api.Decl) bool { return d.Kind == api.DeHybrid })
	return d, p.Decls[d]
}

// numberOf is the last expression of a text.
func numberOf(t *testing.T, p api.Program, text string) int {
	t.Helper()
	for e := len(p.Exprs) - 1; e >= 0; e-- {
		if show.Expr(p, e) == text {
			return e
		}
	}
	t.Fatalf("no %s in %s", text, show.Program(p))
	return -1
}

// numbers are a text's.
func numbers(text string) []int64 {
	var l []int64
	for _, s := range strings.Fields(text) {
		q, err := strconv.ParseInt(s, 10, 64)
		if err != nil {
			panic(err)
		}
		l = append(l, q)
	}
	return l
}

// told are numbers in words.
func told(l []int64) string {
	var words []string
	for _, q := range l {
		words = append(words, strconv.FormatInt(q, 10))
	}
	return strings.Join(words, " ")
}

// checkValue asks for a value in all the ways that there are.
func checkValue(t *testing.T, what string, p api.Program, at api.Point, e int, cells []int64, want int64, flags int, next []int64) {
	t.Helper()
	r, ok := Prepare(p)
	if !ok || r == nil {
		t.Fatalf("%s: not ready", what)
	}
	same := func(v int64, f int, l []int64, ok bool) {
		t.Helper()
		if !ok || v != want || f != flags || !slices.Equal(l, next) {
			t.Errorf("%s: %d, flags %d, next %v, %v, wanted %d, flags %d, next %v", what, v, f, l, ok, want, flags, next)
		}
	}
	same(Value(p, at, e, cells))
	same(r.Value(at, e, cells))
	same(r.Value(at, e, cells))
}

// checkNone asks for a value that there isn't.
func checkNone(t *testing.T, what string, p api.Program, at api.Point, e int, cells []int64) {
	t.Helper()
	r, _ := Prepare(p)
	none := func(v int64, f int, l []int64, ok bool) {
		t.Helper()
		if ok || v != 0 || f != 0 || len(l) != 0 {
			t.Errorf("%s: %d, flags %d, next %v, %v, wanted none", what, v, f, l, ok)
		}
	}
	none(Value(p, at, e, cells))
	none(r.Value(at, e, cells))
}

func checkCells(t *testing.T, what string, p api.Program, e int, want ...int64) {
	t.Helper()
	r, _ := Prepare(p)
	for range 2 {
		if a, b := Cells(p, e), r.Cells(e); !slices.Equal(a, want) || !slices.Equal(b, want) {
			t.Errorf("%s: cells %v, ready %v, wanted %v", what, a, b, want)
		}
	}
}

func checkConst(t *testing.T, what string, p api.Program, e int, want int64, flags int) {
	t.Helper()
	r, _ := Prepare(p)
	same := func(v int64, f int) {
		t.Helper()
		if v != want || f != flags {
			t.Errorf("%s: Const(%d): %d, flags %d, wanted %d, %d", what, e, v, f, want, flags)
		}
	}
	same(Const(p, e))
	same(r.Const(e))
}

func checkFits(t *testing.T, what string, p api.Program, at api.Point, want bool) {
	t.Helper()
	r, _ := Prepare(p)
	if a, b := Fits(p, at), r.Fits(at); a != want || b != want {
		t.Errorf("%s: %v: Fits %v, ready %v", what, at, a, b)
	}
}

// What there is where single expressions are evaluated: of each sort there are several names, and their items stand mixed.
const (
	mixedHead = "fun f(a: fix): fix = a / 2; fun two(a: fix, b: fix): fix = a - b; fun no(a: fix): fix = 1; fun not1(a: bool, b: fix): bool = not a; " +
		"hybrid m(u: fix, b: bool, w: fix) { der x = 1 init 0; mode M {A, B, C}; mem k: fix init 0; mem q: bool init false; der y = 1 init 0; let l: fix = x + k; mode N {C, D}; mem o: fix init 0; let z: fix = 1 / 0; let s: bool = M is B; "
	most = math.MaxInt64
)

func mixedPoint() api.Point {
	return api.Point{In: []int64{5 * one, 1, -one * 5 / 2}, State: []int64{2 * one, 7 * one}, Mem: []int64{3 * one, 0, one / 4}, Mode: []int64{1, 0}}
}

// Each kind of expressions that has no memory.
func TestFixes(t *testing.T) { // P14.2
	for s, want := range map[string]float64{
		"0": 0, "1": 1, "2.5": 2.5, "u": 5, "w": -2.5, "x": 2, "y": 7, "k": 3, "o": 0.25, "l": 5, "l + l": 10, "l - x": 3,
		"-u": -5, "-w": 2.5, "--u": 5, "sqrt 9": 3, "sqrt (x + y)": 3, "sqrt 0": 0, "u + w": 2.5, "u - w": 7.5, "w - u": -7.5, "u * w": -12.5, "u / w": -2, "w / u": -0.5, "x + y * k - o / 1": 22.75, "x - y - k": -8, "x / y / 0.5 * y": 4 - 1.0/(1<<30),
		"if true then u else w": 5, "if false then u else w": -2.5, "if b then x else y": 2, "if q then x else y": 7, "if u < w then 1 else 2": 2, "if M is B then (if N is C then 3 else 4) else 5": 3,
		"f(u)": 2.5, "f(f(u))": 1.25, "f(f(u) + f(x))": 1.75, "two(u, w)": 7.5, "two(w, u)": -7.5, "two(two(x, y), two(k, two(o, u)))": -5 - 7.75, "f(l) + l": 7.5, "no(u)": 1, "f(two(no(1), no(2)) + u)": 2.5,
	} {
		// 2/7 is cut, and so is what is made of it.
		v := int64(want * float64(one))
		if s == "x / y / 0.5 * y" {
			v = (2 * one / 7 * 2) * 7
		}
		p := read(t, mixedHead+"let e: fix = "+s+"; }")
		_, h := hybridOf(p)
		e := h.Items[len(h.Items)-1].E
		checkValue(t, s, p, mixedPoint(), e, nil, v, 0, nil)
		checkCells(t, s, p, e)
	}
}

func TestBools(t *testing.T) { // P14.2
	for s, want := range map[string]int64{
		"true": 1, "false": 0, "b": 1, "q": 0, "s": 1, "s and b": 1, "s and q": 0, "not b": 0, "not q": 1, "not not b": 1, "b and b": 1, "b and q": 0, "q and b": 0, "q and q": 0, "b or b": 1, "b or q": 1, "q or b": 1, "q or q": 0,
		"x < y": 1, "y < x": 0, "x < 2": 0, "x <= y": 1, "y <= x": 0, "x <= 2": 1, "x == y": 0, "x == 2": 1, "y == x": 0, "w < x": 1, "w <= -2.5": 1, "w == -2.5": 1, "x < w": 0, "b == q": 0, "b == true": 1, "q == false": 1, "q == b": 0, "(x < y) == (y < x)": 0, "(x < y) == b": 1,
		"M is A": 0, "M is B": 1, "M is C": 0, "N is C": 1, "N is D": 0, "not M is A": 1, "M is B and N is C": 1, "M is C or N is D": 0,
		"if b then q else s": 0, "if q then q else s": 1, "not1(b, u)": 0, "not1(q, 1 + w)": 1, "not1(not1(b, u), f(u))": 1, "0.0000000003 < 0.0000000005": 1,
	} {
		p := read(t, mixedHead+"let e: bool = "+s+"; }")
		_, h := hybridOf(p)
		e := h.Items[len(h.Items)-1].E
		checkValue(t, s, p, mixedPoint(), e, nil, want, 0, nil)
		checkCells(t, s, p, e)
	}
}

// Flags are gathered of all that is evaluated: both ways of an if, arguments that nobody uses, lets that are asked for.
func TestFlags(t *testing.T) { // P14.2
	for s, want := range map[string]struct {
		v     int64
		flags int
	}{
		"u / 0": {most, 2}, "w / 0": {math.MinInt64, 2}, "0 / 0": {0, 2}, "sqrt w": {0, 2}, "sqrt -u": {0, 2}, "u * 2147483647": {most, 1}, "w * 2147483647": {math.MinInt64, 1}, "2147483647 + u": {most, 1}, "-2147483647 - u": {math.MinInt64, 1}, "2147483647 / 0.1": {most, 1},
		"-(-2147483647 - 1)": {most, 1}, "-(-2147483647 - 0.5)": {2147483647*one + one/2, 0}, "u / 0 + 1": {most, 3}, "1 - u / 0": {-most + one, 2}, "-1 - u / 0": {math.MinInt64, 3},
		"if true then u else u / 0": {5 * one, 2}, "if true then u / 0 else u": {most, 2}, "if false then u else u * 2147483647": {most, 1}, "if false then u * 2147483647 else u": {5 * one, 1}, "if u / 0 < 1 then u else w": {-5 * one / 2, 2},
		"if false and u / 0 < 1 then u else w": {-5 * one / 2, 2}, "if true or u / 0 < 1 then u else w": {5 * one, 2}, "if not (u / 0 <= sqrt w) then u else w": {5 * one, 2}, "if u / 0 == 1 then x else y": {7 * one, 2},
		"no(u / 0)": {one, 2}, "no(u * 2147483647)": {one, 1}, "two(1 / 0, 1)": {most - one, 2}, "two(1, 1 / 0)": {one - most, 2}, "two(u * 2147483647, 1 / 0)": {0, 3}, "no(no(2147483647 + 1) / 0)": {one, 3},
		"z": {most, 2}, "z - z": {0, 2}, "no(z)": {one, 2}, "z + l": {most, 3}, "l": {5 * one, 0}, "l + no(z * l)": {6 * one, 3}, "0 * u": {0, 0},
	} {
		p := read(t, mixedHead+"let e: fix = "+s+"; }")
		_, h := hybridOf(p)
		checkValue(t, s, p, mixedPoint(), h.Items[len(h.Items)-1].E, nil, want.v, want.flags, nil)
	}
}

// The nodes that are called where there is a memory.
const memoryHead = "fun f(a: fix): fix = a; fun twice(a: fix): fix = a + a; fun no(a: fix): fix = 0; fun two(a: fix, b: fix): fix = a - b; " +
	"node g(a: fix): fix { let n: fix = 0 fby n + a; return n + a; } " +
	"node h(a: fix): fix { let n: fix = 0 fby a; return n + n; } " +
	"node pq(a: fix): fix { let p: fix = a -> a; let q: fix = 0 fby a; return p + q; } " +
	"node qp(a: fix): fix { let p: fix = a -> a; let q: fix = 0 fby a; return q + p; } " +
	"node un(a: fix): fix { let n: fix = 0 fby a / 0; let p: fix = a / 0; return a; } " +
	"node lt(a: fix): fix { let n: fix = 0 fby a; return a fby n; } " +
	"node ll(a: fix): fix { let n: fix = 0 fby a; return (a fby n) + (0 -> pre n); } " +
	"node nl(a: fix): fix { let n: fix = 0 fby a; return n + (0 -> pre n); } " +
	"node gg(a: fix, n: fix): fix { let b: fix = g(a); let c: fix = g(n) - b; return c; } " +
	"node ring(a: fix): fix { let c: fix = 0 -> pre d; let d: fix = a fby c; return c + d; } " +
	"node tog(a: bool): bool { let n: bool = false fby (a == not n); return n; } " +
	"node bp(a: bool): fix { return if a and not (false fby a) then 0 else 0 - k(); } node k(): fix { return 0; } " +
	"hybrid m(u: fix, w: fix, b: bool) { der x = 0 init 0; mem k: fix init 0; mem c: bool init false; let v: fix = x + u; let unasked: fix = 1 / 0; on x set k = "

// Steps of u 5, 7 and 9, where w is 100, and x 20: cells at first, then of each step the value and the cells' next.
func TestSteps(t *testing.T) { // P14.1, P14.2
	for s, want := range map[string]string{
		"u":          ": 5 > : 7 > : 9 > ",
		"0 fby u":    "1 0: 0 > 0 5: 5 > 0 7: 7 > 0 9",
		"w fby u":    "1 0: 100 > 0 5: 5 > 0 7: 7 > 0 9",
		"u fby u":    "1 0: 5 > 0 5: 5 > 0 7: 7 > 0 9",
		"u -> w":     "1: 5 > 0: 100 > 0: 100 > 0",
		"w -> u":     "1: 100 > 0: 7 > 0: 9 > 0",
		"0 -> pre u": "1 0: 0 > 0 5: 5 > 0 7: 7 > 0 9",
		"w -> pre v": "1 0: 100 > 0 25: 25 > 0 27: 27 > 0 29",
		// What is inside another one.
		"(w fby u) fby x":                            "1 0 1 0: 100 > 0 20 0 5: 20 > 0 20 0 7: 20 > 0 20 0 9",
		"w fby (w fby u)":                            "1 0 1 0: 100 > 0 100 0 5: 100 > 0 5 0 7: 5 > 0 7 0 9",
		"w fby x fby u":                              "1 0 1 0: 100 > 0 20 0 5: 20 > 0 5 0 7: 5 > 0 7 0 9",
		"0 -> pre (0 -> pre u)":                      "1 0 1 0: 0 > 0 0 0 5: 0 > 0 5 0 7: 5 > 0 7 0 9",
		"u -> w -> x":                                "1 1: 5 > 0 0: 20 > 0 0: 20 > 0 0",
		"(u -> w) -> x":                              "1 1: 5 > 0 0: 20 > 0 0: 20 > 0 0",
		"(w fby u) + (x -> u)":                       "1 0 1: 120 > 0 5 0: 12 > 0 7 0: 16 > 0 9 0",
		"(x -> u) - (w fby u)":                       "1 1 0: -80 > 0 0 5: 2 > 0 0 7: 2 > 0 0 9",
		"-(x -> u) + -(0 -> pre u)":                  "1 1 0: -20 > 0 0 5: -12 > 0 0 7: -16 > 0 0 9",
		"u + (0 -> pre (0 fby x))":                   "1 0 1 0: 5 > 0 0 0 20: 7 > 0 20 0 20: 29 > 0 20 0 20",
		"(x -> pre u) fby (w fby u)":                 "1 0 1 0 1 0: 20 > 0 100 0 5 0 5: 100 > 0 5 0 7 0 7: 5 > 0 7 0 9 0 9",
		"(0 -> pre (0 fby u)) + (0 -> pre (w -> u))": "1 0 1 0 1 0 1: 0 > 0 0 0 100 0 5 0: 100 > 0 5 0 7 0 7 0: 12 > 0 7 0 9 0 9 0",
		"0 fby 0 fby 0 fby u":                        "1 0 1 0 1 0: 0 > 0 0 0 0 0 5: 0 > 0 0 0 5 0 7: 0 > 0 5 0 7 0 9",
		// Both ways are evaluated, whichever is taken.
		"if b then 0 fby u else x -> u":                  "1 0 1: 0 > 0 5 0: 5 > 0 7 0: 7 > 0 9 0",
		"if not b then 0 fby u else x -> u":              "1 0 1: 20 > 0 5 0: 7 > 0 7 0: 9 > 0 9 0",
		"if false fby b then u else w fby u":             "1 0 1 0: 100 > 0 1 0 5: 7 > 0 1 0 7: 9 > 0 1 0 9",
		"if true -> not pre b then u else w":             "1 0: 5 > 0 1: 100 > 0 1: 100 > 0 1",
		"if u < x and (true fby b) then u else 0 fby x":  "1 0 1 0: 5 > 0 1 0 20: 7 > 0 1 0 20: 9 > 0 1 0 20",
		"if c or (false fby b) then 0 -> u else x fby w": "1 0 1 1 0: 20 > 0 1 0 0 100: 7 > 0 1 0 0 100: 9 > 0 1 0 0 100",
		// Calls: arguments first, each call with cells of its own.
		"g(u)":                     "1 0: 5 > 0 5: 12 > 0 12: 21 > 0 21",
		"g(u) + g(w)":              "1 0 1 0: 105 > 0 5 0 100: 212 > 0 12 0 200: 321 > 0 21 0 300",
		"g(g(u))":                  "1 0 1 0: 5 > 0 5 0 5: 17 > 0 12 0 17: 38 > 0 21 0 38",
		"g(u) -> g(w)":             "1 1 0 1 0: 5 > 0 0 5 0 100: 200 > 0 0 12 0 200: 300 > 0 0 21 0 300",
		"g(u) fby g(w)":            "1 0 1 0 1 0: 5 > 0 100 0 5 0 100: 100 > 0 200 0 12 0 200: 200 > 0 300 0 21 0 300",
		"if b then g(u) else g(w)": "1 0 1 0: 5 > 0 5 0 100: 12 > 0 12 0 200: 21 > 0 21 0 300",
		"f(g(u)) + f(u)":           "1 0: 10 > 0 5: 19 > 0 12: 30 > 0 21",
		"twice(g(u))":              "1 0: 10 > 0 5: 24 > 0 12: 42 > 0 21",
		"no(g(u))":                 "1 0: 0 > 0 5: 0 > 0 12: 0 > 0 21",
		"two(0 fby u, w -> u)":     "1 0 1: -100 > 0 5 0: -2 > 0 7 0: -2 > 0 9 0",
		"two(w -> u, 0 fby u)":     "1 1 0: 100 > 0 0 5: 2 > 0 0 7: 2 > 0 0 9",
		"g(v - x)":                 "1 0: 5 > 0 5: 12 > 0 12: 21 > 0 21",
		"g(w fby u)":               "1 0 1 0: 100 > 0 5 0 100: 105 > 0 7 0 105: 112 > 0 9 0 112",
		"0 -> pre g(u)":            "1 0 1 0: 0 > 0 5 0 5: 5 > 0 12 0 12: 12 > 0 21 0 21",
		// Lets: once, when they are asked for first.
		"h(u)":                    "1 0: 0 > 0 5: 10 > 0 7: 14 > 0 9",
		"pq(u)":                   "1 1 0: 5 > 0 0 5: 12 > 0 0 7: 16 > 0 0 9",
		"qp(u)":                   "1 0 1: 5 > 0 5 0: 12 > 0 7 0: 16 > 0 9 0",
		"un(u)":                   ": 5 > : 7 > : 9 > ",
		"lt(u)":                   "1 0 1 0: 5 > 0 0 0 5: 0 > 0 5 0 7: 5 > 0 7 0 9",
		"ll(u)":                   "1 0 1 0 1 0: 5 > 0 0 0 0 0 5: 0 > 0 5 0 5 0 7: 10 > 0 7 0 7 0 9",
		"nl(u)":                   "1 0 1 0: 0 > 0 5 0 0: 5 > 0 7 0 5: 12 > 0 9 0 7",
		"gg(u, w)":                "1 0 1 0: 95 > 0 100 0 5: 188 > 0 200 0 12: 279 > 0 300 0 21",
		"gg(w, u)":                "1 0 1 0: -95 > 0 5 0 100: -188 > 0 12 0 200: -279 > 0 21 0 300",
		"ring(u)":                 "1 0 1 0: 5 > 0 5 0 0: 5 > 0 0 0 5: 5 > 0 5 0 0",
		"nl(lt(u)) + u":           "1 0 1 0 1 0 1 0: 5 > 0 0 0 5 0 0 0 5: 12 > 0 5 0 0 0 5 0 7: 14 > 0 7 0 5 0 0 0 9",
		"0 fby (v + v)":           "1 0: 0 > 0 50: 50 > 0 54: 54 > 0 58",
		"k() + bp(b)":             "1 0: 0 > 0 1: 0 > 0 1: 0 > 0 1",
		"if tog(b) then u else w": "1 0: 100 > 0 1: 7 > 0 0: 100 > 0 1",
	} {
		checkSteps(t, s, want)
	}
}

func checkSteps(t *testing.T, s, want string) {
	t.Helper()
	p := read(t, memoryHead+s+"; }")
	_, h := hybridOf(p)
	e := h.Items[len(h.Items)-1].E
	r, _ := Prepare(p)
	cells := r.Cells(e)
	checkCells(t, s, p, e, cells...)
	got := told(cells)
	for _, u := range []int64{5, 7, 9} {
		at := api.Point{In: []int64{u, 100, 1}, State: []int64{20}, Mem: []int64{-1, 0}}
		v, flags, next, ok := r.Value(at, e, cells)
		if !ok || flags != 0 {
			t.Errorf("%s: flags %d, %v", s, flags, ok)
		}
		checkValue(t, s, p, at, e, cells, v, flags, next)
		got += ": " + strconv.FormatInt(v, 10) + " > " + told(next)
		cells = next
	}
	if got != want {
		t.Errorf("%s:\n%s, wanted\n%s", s, got, want)
	}
}

// An expression has a value by its number, wherever it stands in one of the hybrid's trees, and so do its parts.
func TestParts(t *testing.T) { // P14.1, P14.2
	p := read(t, "node g(a: fix): fix { return 0 -> pre a; } fun f(b: fix): fix = b * 2; fun alone(b: fix): fix = -b; "+
		"hybrid m(u: fix) { der x = u / 4 init sqrt 9; reset x on x - 1 = w + g(u + 1); mem k: fix init f(3); on -u set k = (u -> pre pre2) + 2; mode M {A, B}; from M.B on u + 7 goto A; let w: fix = u * 3; let pre2: fix = w + k; out k; }")
	at := api.Point{In: []int64{one}, State: []int64{3 * one}, Mem: []int64{6 * one}, Mode: []int64{1}}
	for s, want := range map[string]struct {
		v           int64
		cells, next string
	}{
		"u": {1, "", ""}, "4": {4, "", ""}, "sqrt 9": {3, "", ""}, "9": {9, "", ""}, "x - 1": {2, "", ""}, "f(3)": {6, "", ""}, "-u": {-1, "", ""}, "u + 7": {8, "", ""}, "u * 3": {3, "", ""}, "w + k": {9, "", ""}, "u + 1": {2, "", ""},
		"g(u + 1)": {0, "1 0", "0 8589934592"}, "w + g(u + 1)": {3, "1 0", "0 8589934592"}, "pre pre2": {0, "0", "38654705664"}, "u -> pre pre2": {1, "1 0", "0 38654705664"}, "(u -> pre pre2) + 2": {3, "1 0", "0 38654705664"},
	} {
		e := numberOf(t, p, s)
		checkCells(t, s, p, e, numbers(want.cells)...)
		checkValue(t, s, p, at, e, numbers(want.cells), want.v*one, 0, numbers(want.next))
	}
	// What other declarations have is no expression of the hybrid's.
	for _, s := range []string{"0 -> pre a", "pre a", "a", "b * 2", "b", "-b"} {
		e := numberOf(t, p, s)
		checkNone(t, s, p, at, e, nil)
		checkNone(t, s, p, at, e, []int64{0})
		checkNone(t, s, p, at, e, []int64{1, 0})
		checkCells(t, s, p, e)
		checkConst(t, s, p, e, 0, 0)
	}
	for _, e := range []int{-1, len(p.Exprs), len(p.Exprs) + 1, math.MaxInt, math.MinInt} {
		checkNone(t, "no number", p, at, e, nil)
		checkCells(t, "no number", p, e)
		checkConst(t, "no number", p, e, 0, 0)
	}
}

// Cells are as many as are taken, of any numbers: what isn't 1 isn't the first time.
func TestCellCount(t *testing.T) { // P14.2
	p := read(t, "hybrid m(u: fix, b: bool) { mem k: fix init 0; on u set k = u -> (k fby -u); mem q: bool init true; on u set q = true -> not pre b; }")
	fix, bool1 := numberOf(t, p, "u -> k fby -u"), numberOf(t, p, "true -> not pre b")
	at := api.Point{In: []int64{5, 1}, Mem: []int64{7, 0}}
	for s, want := range map[string]int64{
		"1 1 9": 5, "1 0 9": 5, "0 1 9": 7, "0 0 9": 9, "2 1 9": 7, "-1 2 9": 9, "0 -1 -4": -4, "1 1 9223372036854775807": 5, "9223372036854775807 -9223372036854775808 9223372036854775807": most,
	} {
		checkValue(t, s, p, at, fix, numbers(s), want, 0, []int64{0, 0, -5})
	}
	for s, want := range map[string]int64{"1 0": 1, "1 1": 1, "0 0": 1, "0 1": 0, "0 2": 1, "0 -1": 1, "1 2": 1, "7 1": 0} {
		checkValue(t, s, p, at, bool1, numbers(s), want, 0, []int64{0, 1})
	}
	for _, s := range []string{"", "1", "1 0", "1 1 0 0", "1 0 1 0 1 0 0 0 0"} {
		checkNone(t, s, p, at, fix, numbers(s))
	}
	for _, s := range []string{"", "1", "1 0 0"} {
		checkNone(t, s, p, at, bool1, numbers(s))
	}
	checkValue(t, "u", p, at, numberOf(t, p, "u"), nil, 5, 0, nil)
	checkNone(t, "u", p, at, numberOf(t, p, "u"), []int64{0})
	checkNone(t, "many", p, at, fix, make([]int64, 100_000))
}

// What bools are kept in cells is picked, held against 1, or told as it is.
func TestOddBools(t *testing.T) { // P14.2
	p := read(t, "hybrid m(u: fix) { mem k: fix init 0; on u set k = if true -> pre c then 1 else 2; mem c: bool init false; on u set c = true -> pre c; on u set c = true -> not pre c; on u set c = true -> (true and pre c); on u set c = true -> (pre c and true); "+
		"on u set c = true -> (false or pre c); on u set c = true -> (pre c or false); on u set c = true -> (pre c == false); on u set c = true -> (pre c == pre c); on u set c = true -> (pre c and pre c); on u set c = true -> (pre c or pre c); }")
	at := api.Point{In: []int64{0}, Mem: []int64{0, 1}}
	for _, q := range []int64{0, 1, 2, -1, most} {
		is1 := modelTruth(q == 1)
		for s, want := range map[string]int64{
			"if true -> pre c then 1 else 2": (2 - is1) * one, "true -> pre c": q, "true -> not pre c": 1 - is1, "true -> true and pre c": is1, "true -> pre c and true": is1, "true -> false or pre c": is1, "true -> pre c or false": is1, "true -> pre c == false": modelTruth(q == 0),
		} {
			checkValue(t, s, p, at, numberOf(t, p, s), []int64{0, q}, want, 0, []int64{0, 1})
		}
		for _, r := range []int64{0, 1, 2, -1, most} {
			for s, want := range map[string]bool{"true -> pre c == pre c": q == r, "true -> pre c and pre c": q == 1 && r == 1, "true -> pre c or pre c": q == 1 || r == 1} {
				checkValue(t, s, p, at, numberOf(t, p, s), []int64{0, q, r}, modelTruth(want), 0, []int64{0, 1, 1})
			}
		}
	}
}

// Flags are those of the cells' next, too, and of what isn't picked.
func TestFlagsOfMemory(t *testing.T) { // P14.2
	at := api.Point{In: []int64{5 * one, -one}, Mem: []int64{0}}
	for s, want := range map[string]int{
		"0 fby u": 0, "0 fby u / 0": 2, "u / 0 fby u": 2, "0 -> u / 0": 2, "u / 0 -> u": 2, "0 -> pre (u / 0)": 2, "0 -> pre (u * 2147483647)": 1, "0 fby 0 fby u / 0": 2, "u / 0 fby u * 2147483647": 3, "g(u)": 0, "g(w)": 2, "0 fby g(w)": 2,
		"g(u / 0)": 2, "g(u * 2147483647)": 1, "g(-u * 2147483647)": 3, "un(u)": 0, "un(w)": 0, "0 -> pre (0 fby sqrt w)": 2, "sqrt (0 fby w)": 0, "0 fby sqrt (w * u)": 2, "l": 1, "0 fby l": 1, "0 -> pre (0 fby l - 1)": 1,
	} {
		p := read(t, "node g(a: fix): fix { let n: fix = 0 fby sqrt a; return n; } node un(a: fix): fix { let n: fix = 0 fby sqrt a; let o: fix = sqrt -1; return a; } "+
			"hybrid m(u: fix, w: fix) { mem k: fix init 0; let l: fix = u * 2147483647; let none: fix = 1 / 0; on u set k = "+s+"; }")
		_, h := hybridOf(p)
		r, _ := Prepare(p)
		e := h.Items[len(h.Items)-1].E
		cells := r.Cells(e)
		for step := range 2 { // the cells' first ones, and then those that aren't
			_, flags, next, ok := r.Value(at, e, cells)
			if !ok || flags != want {
				t.Errorf("%s, step %d: flags %d, wanted %d", s, step, flags, want)
			}
			for i := range next {
				if next[i] != 0 {
					next[i] = 3
				}
			}
			cells = next
		}
	}
}

// A point fits by how many numbers it has of each sort, and by those of bools and modes.
func TestFits(t *testing.T) { // P14.2
	p := read(t, mixedHead+"}")
	fits := func(what string, want bool, change func(at *api.Point)) {
		t.Helper()
		at := mixedPoint()
		change(&at)
		checkFits(t, what, p, at, want)
		if e := numberOf(t, p, "x + k"); !want {
			checkNone(t, what, p, at, e, nil)
		}
	}
	fits("as it is", true, func(at *api.Point) {})
	for i, bank := range []func(at *api.Point) *[]int64{func(at *api.Point) *[]int64 { return &at.In }, func(at *api.Point) *[]int64 { return &at.State }, func(at *api.Point) *[]int64 { return &at.Mem }, func(at *api.Point) *[]int64 { return &at.Mode }} {
		fits("one less", false, func(at *api.Point) { b := bank(at); *b = (*b)[:len(*b)-1] })
		fits("one more", false, func(at *api.Point) { b := bank(at); *b = append(*b, 0) })
		fits("none", false, func(at *api.Point) { *bank(at) = nil })
		fits("empty", false, func(at *api.Point) { *bank(at) = []int64{} })
		// How many numbers each place may have: 0 is any.
		rooms := [][]int64{{0, 2, 0}, {0, 0}, {0, 2, 0}, {3, 2}}[i]
		for k, room := range rooms {
			for _, q := range []int64{math.MinInt64, -one, -1, 0, 1, 2, 3, 4, one, 2 * one, 1 << 40, most} {
				fits(strconv.Itoa(i)+" "+strconv.Itoa(k)+" "+told([]int64{q}), room == 0 || 0 <= q && q < room, func(at *api.Point) { (*bank(at))[k] = q })
			}
		}
	}
	fits("lists changed", false, func(at *api.Point) { at.In, at.Mem = at.State, at.State })
	none := read(t, "hybrid m() { let a: fix = 1; out a; }")
	checkFits(t, "none of all", none, api.Point{}, true)
	checkFits(t, "empty ones", none, api.Point{In: []int64{}, State: []int64{}, Mem: []int64{}, Mode: []int64{}}, true)
	checkFits(t, "one more", none, api.Point{In: []int64{0}}, false)
	checkFits(t, "one more", none, api.Point{Mode: []int64{0}}, false)
	checkValue(t, "none of all", none, api.Point{}, 0, nil, one, 0, nil)
	// What is in other declarations makes no difference.
	other := read(t, "node g(a: bool): bool { let b: bool = a; return b; } hybrid m(v: bool) { mode Only {A}; } fun f(a: bool, b: fix): fix = b;")
	checkFits(t, "its own", other, api.Point{In: []int64{1}, Mode: []int64{0}}, true)
	checkFits(t, "its own", other, api.Point{In: []int64{2}, Mode: []int64{0}}, false)
	checkFits(t, "its own", other, api.Point{In: []int64{1}, Mode: []int64{1}}, false)
}

// Constants are what stands itself in a constant place, and no part of it.
func TestConst(t *testing.T) { // P14.3
	p := read(t, "fun f(a: fix): fix = a * a; fun g(a: bool): bool = not a; hybrid m(u: fix) { der x = 1 init 2; der y = 3 + u init 4 / 5; mem k: fix init 6; mem c: bool init true; mem d: bool init 7 < 8; der z = 9 init sqrt f(10 + 11); mem e: bool init g(g(12 == 13)); "+
		"der v = 14 init if true then -15 else 16 / 0; mem n: fix init 2147483647 * 2147483647; on 17 set k = 18; reset x on 19 = 20; let l: fix = 21; mode M {A}; from M.A on 22 goto A; mem b: bool init false or true; der w = 0 init -1 / 0 + (1 - 3 * 2147483647); }")
	consts := map[string]struct {
		v     int64
		flags int
	}{
		"2": {2 * one, 0}, "4 / 5": {one * 4 / 5, 0}, "6": {6 * one, 0}, "true": {1, 0}, "7 < 8": {1, 0}, "sqrt f(10 + 11)": {21 * one, 0}, "g(g(12 == 13))": {0, 0},
		"if true then -15 else 16 / 0": {-15 * one, 2}, "2147483647 * 2147483647": {most, 1}, "false or true": {1, 0}, "-1 / 0 + (1 - 3 * 2147483647)": {math.MinInt64, 3},
	}
	told := 0
	for e := range p.Exprs {
		s := show.Expr(p, e)
		want, ok := consts[s]
		if s == "true" && e > numberOf(t, p, "7 < 8") { // those of an if, and of an or
			ok = false
		}
		if !ok {
			checkConst(t, s, p, e, 0, 0)
			continue
		}
		told++
		checkConst(t, s, p, e, want.v, want.flags)
		checkCells(t, s, p, e)
		at := api.Point{In: []int64{9}, State: []int64{1, 2, 3, 4, 5}, Mem: []int64{7, 1, 1, 0, 8, 0}, Mode: []int64{0}}
		checkValue(t, s, p, at, e, nil, want.v, want.flags, nil)
	}
	if told != len(consts) {
		t.Error(told)
	}
	checkConst(t, "a hybrid of nothing", read(t, "hybrid m() { let a: fix = 1; }"), 0, 0, 0)
}

// faulty are programs with faults, one of each layer and what has none.
func faulty(t *testing.T) map[string]api.Program {
	l := map[string]api.Program{"empty": {}, "may not be": {Exprs: []api.Expr{{Kind: 99}}, Decls: []api.Decl{{Kind: api.DeHybrid, Name: "m"}}}, "of no kind": {Decls: []api.Decl{{Kind: api.DeHybrid, Name: "m"}, {Kind: 4, Name: "o"}}}}
	for _, s := range []string{
		"hybrid m(u: fix) { out x; mem k: fix init 1; }", "hybrid m(u: fix) { mem k: fix init true; }", "hybrid m(u: fix) { mem k: fix init u; }", "hybrid m(u: fix) { mem k: fix init f(1); } fun f(a: fix): fix = f(a);",
		"hybrid m(u: fix) { mem k: fix init 1; let a: fix = a; }", "hybrid m(u: fix) { mem k: fix init 1; on u set k = pre k; }", "fun f(a: fix): fix = a; node g(a: fix): fix { return a; }", "hybrid m(u: fix) { mem k: fix init 1; } hybrid n() { }",
		"hybrid m(u: fix) { mem k: fix init 1; } node n(): fix { return pre 1; }", "hybrid m(u: fix) { mem k: fix init 1; let a: fix = " + strings.Repeat("-", 25) + "1" + strings.Repeat(" + 1", 2000) + "; }",
	} {
		p := parsed(t, s)
		if len(check.Program(p)) == 0 {
			t.Fatal(s)
		}
		l[s] = p
	}
	return l
}

// Programs with faults have nothing, whatever is asked for.
func TestFaulty(t *testing.T) { // P14.1, P14.2, P14.3, P14.5
	points := []api.Point{{}, {In: []int64{0}, Mem: []int64{0}}, {In: []int64{1}}}
	for s, p := range faulty(t) {
		if r, ok := Prepare(p); ok || r != nil {
			t.Error(s, r, ok)
		}
		for e := -1; e <= len(p.Exprs); e++ {
			if e > 3 && e < len(p.Exprs)-3 {
				continue
			}
			checkConst(t, s, p, e, 0, 0)
			checkCells(t, s, p, e)
			for _, at := range points {
				checkNone(t, s, p, at, e, nil)
				checkNone(t, s, p, at, e, []int64{0})
			}
		}
		for _, at := range points {
			checkFits(t, s, p, at, false)
		}
	}
}

// Of nil there is nothing, as of a program with faults; nor of one that nobody made ready.
func TestNil(t *testing.T) { // P14.5
	for _, r := range []*Ready{nil, {}} {
		for _, e := range []int{-1, 0, 1, math.MaxInt, math.MinInt} {
			v, flags := r.Const(e)
			q, f, next, ok := r.Value(api.Point{}, e, nil)
			if v != 0 || flags != 0 || q != 0 || f != 0 || len(next) > 0 || ok || len(r.Cells(e)) > 0 || r.Fits(api.Point{}) {
				t.Error(e, v, flags, q, f, next, ok)
			}
		}
	}
}
