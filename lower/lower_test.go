package lower

import (
	"slices"
	"strconv"
	"strings"
	"testing"

	"astrolabe/api"
	"astrolabe/check"
	"astrolabe/dec"
	"astrolabe/parse"
)

const one = api.One

// read is the program of a text that has no fault.
func read(t *testing.T, s string) api.Program {
	t.Helper()
	p, fault := check.Text(s)
	if fault != (api.Fault{}) {
		t.Fatalf("%q: %s", s, check.Say(s, fault))
	}
	return p
}

// objectOf is the object of a program that has one.
func objectOf(t *testing.T, what string, p api.Program) api.Object {
	t.Helper()
	o, fault := Object(p)
	if fault != (api.Fault{}) {
		t.Fatalf("%s: %v", what, fault)
	}
	return o
}

// shapes are what each instruction has, and is called.
var shapes = [...]struct{ word, has string }{
	{}, {"const", "DV"}, {"in", "DA"}, {"state", "DA"}, {"mem", "DA"}, {"cross", "DA"}, {"neg", "DA"}, {"not", "DA"}, {"sqrt", "DA"},
	{"add", "DAB"}, {"sub", "DAB"}, {"mul", "DAB"}, {"div", "DAB"}, {"less", "DAB"}, {"most", "DAB"}, {"same", "DAB"}, {"and", "DAB"}, {"or", "DAB"}, {"pick", "DABC"},
	{"skip", "AB"}, {"put", "DA"}, {"store", "DA"}, {"set", "DA"},
}

// told is an instruction in short: what it has, and what it mustn't have with a !; of great ones V as a number.
func told(in api.Ins) string {
	if in.Op < 1 || in.Op >= len(shapes) {
		return "?"
	}
	s := shapes[in.Op].word
	for i, q := range []int64{int64(in.D), int64(in.A), int64(in.B), int64(in.C), in.V} {
		field := "DABCV"[i : i+1]
		switch {
		case !strings.Contains(shapes[in.Op].has, field):
			if q != 0 {
				s += " !" + field
			}
		case field == "V" && (q >= one/256 || q <= -one/256):
			s += " " + dec.Print(q)
		case field == "V" && q != 0:
			s += " #" + strconv.FormatInt(q, 10)
		default:
			s += " " + strconv.FormatInt(q, 10)
		}
	}
	return s
}

// checkPiece holds a piece against one in short.
func checkPiece(t *testing.T, what string, l []api.Ins, want string) {
	t.Helper()
	var words []string
	for _, in := range l {
		words = append(words, told(in))
	}
	if got := strings.Join(words, ", "); got != want {
		t.Errorf("%s:\n%s, wanted\n%s", what, got, want)
	}
}

// checkFault asks for the object of what has a fault, and none beside it.
func checkFault(t *testing.T, what string, p api.Program, want api.Fault) {
	t.Helper()
	o, fault := Object(p)
	if fault != want {
		t.Errorf("%s: %v, wanted %v", what, fault, want)
	}
	if fault.Code != api.OK && (len(o.In)+len(o.Out)+len(o.State)+len(o.Mem)+len(o.Deriv)+len(o.Zero)+len(o.Step)+len(o.At) > 0 || o.Cross != 0 || o.Flags != 0) {
		t.Errorf("%s: beside a fault %v", what, o)
	}
}

// What there is where single expressions have their code: of each sort there are several names, and their items stand mixed.
const mixed = "fun f(a: fix): fix = a + a; fun two(a: fix, b: fix): fix = b - a; fun no(a: fix): fix = 1; fun id(a: fix): fix = a; fun ff(b: fix): fix = f(f(b)) * b; fun not1(a: bool, b: fix): bool = not a; " +
	"node last(a: fix): fix { return 0 fby a; } node sum(a: fix): fix { let s: fix = was + a; let was: fix = 0 fby s; return s; } node both(a: fix, b: fix): fix { let d: fix = last(a); return d + last(b) + d; } node behind(a: fix): fix { let d: fix = a * a; return a fby d + d; } " +
	"hybrid m(u: fix, b: bool, w: fix) { mode M {A, B}; der x = 1 init 0; mem k: fix init 3; let l: fix = x + y; der y = 2 init 0; mode N {C, B, D}; mem q: bool init true; let lq: bool = q or b; let ll: fix = l * l; "

// Each kind of expressions without a memory, in all pieces where it may stand.
func TestSmooth(t *testing.T) { // P15.1
	for s, want := range map[string]string{
		"1.5": "const 0 1.5", "0": "const 0 0", "u": "in 0 0", "w": "in 0 2", "x": "state 0 0", "y": "state 0 1", "k": "mem 0 0",
		"-u": "in 0 0, neg 1 0", "--w": "in 0 2, neg 1 0, neg 2 1", "sqrt k": "mem 0 0, sqrt 1 0",
		"u + w": "in 0 0, in 1 2, add 2 0 1", "u - w": "in 0 0, in 1 2, sub 2 0 1", "x * y": "state 0 0, state 1 1, mul 2 0 1", "y / x": "state 0 1, state 1 0, div 2 0 1",
		"u + u": "in 0 0, in 1 0, add 2 0 1", "u - (w - k)": "in 0 0, in 1 2, mem 2 0, sub 3 1 2, sub 4 0 3", "u - w - k": "in 0 0, in 1 2, sub 2 0 1, mem 3 0, sub 4 2 3",
		"if b then u else w": "in 0 1, in 1 0, in 2 2, pick 3 0 1 2", "if q then 1 else -2": "mem 0 1, const 1 1, const 2 2, neg 3 2, pick 4 0 1 3",
		"if u < w then x else y": "in 0 0, in 1 2, less 2 0 1, state 3 0, state 4 1, pick 5 2 3 4",
		"l":                      "state 0 0, state 1 1, add 2 0 1", "l + l": "state 0 0, state 1 1, add 2 0 1, add 3 2 2", "u * l / l": "in 0 0, state 1 0, state 2 1, add 3 1 2, mul 4 0 3, div 5 4 3",
		"ll - l": "state 0 0, state 1 1, add 2 0 1, mul 3 2 2, sub 4 3 2", "l - ll": "state 0 0, state 1 1, add 2 0 1, mul 3 2 2, sub 4 2 3",
		"f(u)": "in 0 0, add 1 0 0", "f(3)": "const 0 3, add 1 0 0", "id(u)": "in 0 0", "id(l)": "state 0 0, state 1 1, add 2 0 1", "no(u)": "in 0 0, const 1 1", "no(l) + l": "state 0 0, state 1 1, add 2 0 1, const 3 1, add 4 3 2",
		"two(u, w)": "in 0 0, in 1 2, sub 2 1 0", "two(w, two(x, y))": "in 0 2, state 1 0, state 2 1, sub 3 2 1, sub 4 3 0", "f(u) + f(u)": "in 0 0, add 1 0 0, in 2 0, add 3 2 2, add 4 1 3",
		"ff(k)": "mem 0 0, add 1 0 0, add 2 1 1, mul 3 2 0", "ff(f(u))": "in 0 0, add 1 0 0, add 2 1 1, add 3 2 2, mul 4 3 1",
	} {
		p := read(t, mixed+"let e: fix = "+s+"; der z = e init 0; out e; mem o: fix init 0; on e set o = e; }")
		o := objectOf(t, s, p)
		n := strconv.Itoa(registersOf(want) - 1)
		checkPiece(t, s+" (at)", o.At, want+", put 0 "+n)
		checkPiece(t, s+" (zero)", o.Zero, want+", put 0 "+n)
		checkPiece(t, s+" (deriv)", o.Deriv, "const 0 1, put 0 0, const 1 2, put 1 1, "+moved(want, 2)+", put 2 "+plus(n, 2))
		length := strconv.Itoa(len(strings.Split(want, ", ")) + 1)
		checkPiece(t, s+" (step)", o.Step, "cross 0 0, skip 0 "+length+", "+moved(want, 1)+", store 2 "+plus(n, 1))
	}
}

func TestSmoothBools(t *testing.T) { // P15.1
	for s, want := range map[string]string{
		"true": "const 0 #1", "false": "const 0 0", "b": "in 0 1", "q": "mem 0 1", "lq": "mem 0 1, in 1 1, or 2 0 1", "not b": "in 0 1, not 1 0",
		"u < w": "in 0 0, in 1 2, less 2 0 1", "u <= w": "in 0 0, in 1 2, most 2 0 1", "u == w": "in 0 0, in 1 2, same 2 0 1", "b == q": "in 0 1, mem 1 1, same 2 0 1", "b and q": "in 0 1, mem 1 1, and 2 0 1", "b or q": "in 0 1, mem 1 1, or 2 0 1",
		"M is A": "mem 0 2, const 1 0, same 2 0 1", "M is B": "mem 0 2, const 1 #1, same 2 0 1", "N is C": "mem 0 3, const 1 0, same 2 0 1", "N is B": "mem 0 3, const 1 #1, same 2 0 1", "N is D": "mem 0 3, const 1 #2, same 2 0 1",
		"M is B and not N is D": "mem 0 2, const 1 #1, same 2 0 1, mem 3 3, const 4 #2, same 5 3 4, not 6 5, and 7 2 6",
		"if b then q else lq":   "in 0 1, mem 1 1, mem 2 1, in 3 1, or 4 2 3, pick 5 0 1 4", "not1(lq, l)": "mem 0 1, in 1 1, or 2 0 1, state 3 0, state 4 1, add 5 3 4, not 6 2",
	} {
		p := read(t, mixed+"let e: bool = "+s+"; out e; }")
		o := objectOf(t, s, p)
		checkPiece(t, s, o.At, want+", put 0 "+strconv.Itoa(registersOf(want)-1))
		if !slices.Equal(o.Out, []int{api.TypeBool}) {
			t.Error(s, o.Out)
		}
	}
}

// registersOf is how many registers a row of instructions in short makes.
func registersOf(s string) int {
	n := 0
	for _, in := range strings.Split(s, ", ") {
		if w := strings.Fields(in)[0]; w != "skip" && w != "store" {
			n++
		}
	}
	return n
}

func plus(s string, n int) string {
	i, err := strconv.Atoi(s)
	if err != nil {
		panic(err)
	}
	return strconv.Itoa(i + n)
}

// moved is a row of instructions in short whose registers are n more.
func moved(s string, n int) string {
	var l []string
	for _, in := range strings.Split(s, ", ") {
		w := strings.Fields(in)
		registers := map[string]string{"const": "D", "in": "D", "state": "D", "mem": "D", "store": " A", "skip": "A"}[w[0]]
		for i := 1; i < len(w); i++ {
			if registers == "" || i <= len(registers) && registers[i-1] != ' ' {
				w[i] = plus(w[i], n)
			}
		}
		l = append(l, strings.Join(w, " "))
	}
	return strings.Join(l, ", ")
}

// Each kind of expressions with a memory: cells' memories stand behind the mems and modes; what they are next stands behind all else, in the order in which they are taken.
func TestCells(t *testing.T) { // P15.1
	for s, want := range map[string]struct{ code, cells string }{
		"0 -> u":     {"mem 1 5, const 2 0, in 3 0, pick 4 1 2 3, const 5 0, store 5 5", "1"},
		"0 fby u":    {"mem 1 5, mem 2 6, const 3 0, pick 4 1 3 2, const 5 0, store 5 5, in 6 0, store 6 6", "1 0"},
		"u fby 0":    {"mem 1 5, mem 2 6, in 3 0, pick 4 1 3 2, const 5 0, store 5 5, const 6 0, store 6 6", "1 0"},
		"0 -> pre u": {"mem 1 5, const 2 0, mem 3 6, pick 4 1 2 3, const 5 0, store 5 5, in 6 0, store 6 6", "1 0"},
		// A cell's next takes more.
		"0 fby (1 fby u)":     {"mem 1 5, mem 2 6, const 3 0, pick 4 1 3 2, const 5 0, store 5 5, mem 6 7, mem 7 8, const 8 1, pick 9 6 8 7, store 6 9, const 10 0, store 7 10, in 11 0, store 8 11", "1 0 1 0"},
		"0 -> pre (1 -> u)":   {"mem 1 5, const 2 0, mem 3 6, pick 4 1 2 3, const 5 0, store 5 5, mem 6 7, const 7 1, in 8 0, pick 9 6 7 8, store 6 9, const 10 0, store 7 10", "1 0 1"},
		"(0 fby u) fby w":     {"mem 1 5, mem 2 6, mem 3 7, mem 4 8, const 5 0, pick 6 3 5 4, pick 7 1 6 2, const 8 0, store 5 8, in 9 2, store 6 9, const 10 0, store 7 10, in 11 0, store 8 11", "1 0 1 0"},
		"(0 fby u) -> (1->w)": {"mem 1 5, mem 2 6, mem 3 7, const 4 0, pick 5 2 4 3, mem 6 8, const 7 1, in 8 2, pick 9 6 7 8, pick 10 1 5 9, const 11 0, store 5 11, const 12 0, store 6 12, in 13 0, store 7 13, const 14 0, store 8 14", "1 1 0 1"},
		// A let is asked for in a scope once, ahead or behind.
		"l fby l":     {"mem 1 5, mem 2 6, state 3 0, state 4 1, add 5 3 4, pick 6 1 5 2, const 7 0, store 5 7, store 6 5", "1 0"},
		"0 fby l + l": {"mem 1 5, mem 2 6, const 3 0, pick 4 1 3 2, const 5 0, store 5 5, state 6 0, state 7 1, add 8 6 7, add 9 8 8, store 6 9", "1 0"},
		// Nodes: a call has cells of its own, and a scope of its own.
		"last(u)":                        {"in 1 0, mem 2 5, mem 3 6, const 4 0, pick 5 2 4 3, const 6 0, store 5 6, store 6 1", "1 0"},
		"last(u) - last(u)":              {"in 1 0, mem 2 5, mem 3 6, const 4 0, pick 5 2 4 3, in 6 0, mem 7 7, mem 8 8, const 9 0, pick 10 7 9 8, sub 11 5 10, const 12 0, store 5 12, store 6 1, const 13 0, store 7 13, store 8 6", "1 0 1 0"},
		"last(last(l))":                  {"state 1 0, state 2 1, add 3 1 2, mem 4 5, mem 5 6, const 6 0, pick 7 4 6 5, mem 8 7, mem 9 8, const 10 0, pick 11 8 10 9, const 12 0, store 5 12, store 6 3, const 13 0, store 7 13, store 8 7", "1 0 1 0"},
		"sum(u)":                         {"in 1 0, mem 2 5, mem 3 6, const 4 0, pick 5 2 4 3, add 6 5 1, const 7 0, store 5 7, store 6 6", "1 0"},
		"both(u, w)":                     {"in 1 0, in 2 2, mem 3 5, mem 4 6, const 5 0, pick 6 3 5 4, mem 7 7, mem 8 8, const 9 0, pick 10 7 9 8, add 11 6 10, add 12 11 6, const 13 0, store 5 13, store 6 1, const 14 0, store 7 14, store 8 2", "1 0 1 0"},
		"behind(u)":                      {"in 1 0, mem 2 5, mem 3 6, pick 4 2 1 3, const 5 0, store 5 5, mul 6 1 1, add 7 6 6, store 6 7", "1 0"},
		"f(0 fby u)":                     {"mem 1 5, mem 2 6, const 3 0, pick 4 1 3 2, add 5 4 4, const 6 0, store 5 6, in 7 0, store 6 7", "1 0"},
		"no(0 fby u)":                    {"mem 1 5, mem 2 6, const 3 0, pick 4 1 3 2, const 5 1, const 6 0, store 5 6, in 7 0, store 6 7", "1 0"},
		"if N is D then (0 -> u) else 1": {"mem 1 4, const 2 #2, same 3 1 2, mem 4 5, const 5 0, in 6 0, pick 7 4 5 6, const 8 1, pick 9 3 7 8, const 10 0, store 5 10", "1"},
		"u":                              {"in 1 0", ""},
	} {
		o := objectOf(t, s, read(t, mixed+"mem o: fix init 0; on u set o = "+s+"; }"))
		parts := strings.Split(want.code, ", ")
		value := valueOf(parts)
		checkPiece(t, s, o.Step, "cross 0 0, skip 0 "+strconv.Itoa(len(parts)+1)+", "+want.code+", store 2 "+value)
		checkCells(t, s, o.Mem[:5], 3*one, 1, 0, 0, 0)
		var cells []int64
		for _, w := range strings.Fields(want.cells) {
			cells = append(cells, int64(w[0]-'0'))
		}
		checkCells(t, s, o.Mem[5:], cells...)
		// The same in a reset, but for what it is of.
		o = objectOf(t, s, read(t, mixed+"mem o: fix init 0; reset y on u = "+s+"; }"))
		checkPiece(t, s, o.Step, "cross 0 0, skip 0 "+strconv.Itoa(len(parts)+1)+", "+want.code+", set 1 "+value)
		checkCells(t, s, o.Mem[5:], cells...)
	}
}

// valueOf is the register of an expression, in code that has what is behind it: that ahead of the first cell's next.
func valueOf(parts []string) string {
	for i, s := range parts {
		if strings.HasPrefix(s, "store") {
			parts = parts[:i-1]
			break
		}
	}
	return strings.Fields(parts[len(parts)-1])[1]
}

func checkCells(t *testing.T, what string, got []int64, want ...int64) {
	t.Helper()
	if !slices.Equal(got, want) {
		t.Errorf("%s: memories %v, wanted %v", what, got, want)
	}
}

// A piece has one scope for all, but Step has one for each crossing; the last crossing is done first, and each one's cells stand where its item does.
func TestPieces(t *testing.T) { // P15.1
	s := `node c(a: fix): fix { return 0 fby a; }
hybrid m(u: fix, b: bool) {
  out x;
  on l set k = c(l);
  der x = l init 1.5;
  reset y on l + l = l -> 2;
  let l: fix = u * x;
  mode M {A, B, C};
  from N.F on ll goto F;
  from M.B on y goto C;
  mem q: bool init false;
  der y = ll - l init -3;
  let ll: fix = l * l;
  on ll set q = true fby q;
  out q;
  mem k: fix init 0.5;
  mode N {E, F};
  out l;
  let isf: bool = M is C and N is F;
  out isf;
  out l;
  out ll;
  reset x on u = 7;
  out k;
  out y;
}`
	o := objectOf(t, s, read(t, s))
	if !slices.Equal(o.In, []int{1, 2}) || !slices.Equal(o.Out, []int{1, 2, 1, 2, 1, 1, 1, 1}) || !slices.Equal(o.State, []int64{one * 3 / 2, -3 * one}) || o.Cross != 6 || o.Flags != 0 {
		t.Errorf("%+v", o)
	}
	checkCells(t, s, o.Mem, 0, one/2, 0, 0, 1, 0, 1, 1, 0)
	checkPiece(t, "deriv", o.Deriv, "in 0 0, state 1 0, mul 2 0 1, put 0 2, mul 3 2 2, sub 4 3 2, put 1 4")
	checkPiece(t, "zero", o.Zero, "in 0 0, state 1 0, mul 2 0 1, put 0 2, add 3 2 2, put 1 3, mul 4 2 2, put 2 4, state 5 1, put 3 5, put 4 4, in 6 0, put 5 6")
	checkPiece(t, "at", o.At, "state 0 0, put 0 0, mem 1 0, put 1 1, in 2 0, state 3 0, mul 4 2 3, put 2 4, mem 5 2, const 6 #2, same 7 5 6, mem 8 3, const 9 #1, same 10 8 9, and 11 7 10, put 3 11, put 4 4, mul 12 4 4, put 5 12, mem 13 1, put 6 13, state 14 1, put 7 14")
	checkPiece(t, "step", o.Step, "cross 0 5, skip 0 2, const 1 7, set 0 1, "+
		"cross 2 4, skip 2 9, mem 3 7, mem 4 8, const 5 #1, pick 6 3 5 4, const 7 0, store 7 7, mem 8 0, store 8 8, store 0 6, "+
		"cross 9 3, skip 9 6, mem 10 2, const 11 #1, same 12 10 11, skip 12 2, const 13 #2, store 2 13, "+
		"cross 14 2, skip 14 6, mem 15 3, const 16 #1, same 17 15 16, skip 17 2, const 18 #1, store 3 18, "+
		"cross 19 1, skip 19 9, mem 20 6, in 21 0, state 22 0, mul 23 21 22, const 24 2, pick 25 20 23 24, const 26 0, store 6 26, set 1 25, "+
		"cross 27 0, skip 27 11, in 28 0, state 29 0, mul 30 28 29, mem 31 4, mem 32 5, const 33 0, pick 34 31 33 32, const 35 0, store 4 35, store 5 30, store 1 34")
}

// The chapter's example, and what has next to nothing.
func TestSmall(t *testing.T) { // P15.1
	for s, want := range map[string][4]string{
		"hybrid m() { }":                                         {},
		"hybrid m() { der x = 1 init 0; }":                       {"const 0 1, put 0 0"},
		"hybrid m(u: fix) { let l: fix = u; }":                   {},
		"hybrid m(u: fix) { mem k: fix init 1; }":                {},
		"hybrid m(u: fix) { der x = u init 0; out x; }":          {"in 0 0, put 0 0", "", "", "state 0 0, put 0 0"},
		"hybrid m(u: fix) { mode M {A}; from M.A on u goto A; }": {"", "in 0 0, put 0 0", "cross 0 0, skip 0 6, mem 1 0, const 2 0, same 3 1 2, skip 3 2, const 4 0, store 0 4"},
		"hybrid m(u: fix) { mem k: fix init 1; out k; out k; }":  {"", "", "", "mem 0 0, put 0 0, mem 1 0, put 1 1"},
		"hybrid m(u: fix) { let l: fix = u; out l; out l; }":     {"", "", "", "in 0 0, put 0 0, put 1 0"},
	} {
		o := objectOf(t, s, read(t, s))
		for i, l := range [][]api.Ins{o.Deriv, o.Zero, o.Step, o.At} {
			checkPiece(t, s, l, want[i])
		}
	}
}

// States and memories are what layer 14 has of constants, held; all flags of these are the object's, but no others.
func TestFirst(t *testing.T) { // P15.1
	for s, want := range map[string]struct {
		state, mem []int64
		flags      int
	}{
		"":                  {nil, nil, 0},
		"der x = 1 init 2;": {[]int64{2 * one}, nil, 0},
		"mem k: fix init 2147483647 + 1; der x = 1 / 0 init 5;":                                      {[]int64{5 * one}, []int64{1<<63 - 1}, 1},
		"mem k: fix init 3; der x = 1 init -1 / 0;":                                                  {[]int64{-1 << 63}, []int64{3 * one}, 2},
		"mem k: fix init f(3); der x = 1 init f(sqrt 4); mem q: bool init not (f(1) < 3);":           {[]int64{4 * one}, []int64{6 * one, 0}, 0},
		"mem k: fix init sqrt -1; der x = 1 init 2147483647 * 2;":                                    {[]int64{1<<63 - 1}, []int64{0}, 3},
		"der x = 1 init 1; der y = 1 init if true then 2 else 1 / 0;":                                {[]int64{one, 2 * one}, nil, 2},
		"mem a: fix init 0.1; mode M {A, B}; mem b: bool init true; mode N {A}; mem c: fix init 7;":  {nil, []int64{429496729, 1, 7 * one, 0, 0}, 0},
		"let l: fix = 1 / 0; out l; der x = l init 1; on 1 / 0 set k = 1 / 0; mem k: fix init 0.25;": {[]int64{one}, []int64{one / 4}, 0},
		"mem k: fix init 0; on 1 set k = (1 / 0) fby 2;":                                             {nil, []int64{0, 1, 0}, 0},
	} {
		o := objectOf(t, s, read(t, "fun f(a: fix): fix = a + a; hybrid m(u: fix) { "+s+" }"))
		if !slices.Equal(o.State, want.state) || !slices.Equal(o.Mem, want.mem) || o.Flags != want.flags {
			t.Errorf("%s: %v, %v, %d, wanted %v", s, o.State, o.Mem, o.Flags, want)
		}
	}
}

// Each layer's faults are the object's, the first of them alone; places are those of the text.
func TestFaults(t *testing.T) { // P15.1
	for s, want := range map[string]api.Fault{
		"":                             {Code: api.ErrName, At: 0},
		"fun f(a: fix): fix = a;":      {Code: api.ErrName, At: 0},
		"hybrid m() { out q; out r; }": {Code: api.ErrName, At: 13},
		"hybrid m() { let a: fix = true; let b: fix = b; }":                                        {Code: api.ErrType, At: 26},
		"hybrid m() { der x = pre x init 0; }":                                                     {Code: api.ErrKind, At: 21},
		"fun f(a: fix): fix = f(a); hybrid m() { }":                                                {Code: api.ErrRecurse, At: 21},
		"hybrid m() { let x: fix = y; let y: fix = x; }":                                           {Code: api.ErrCause, At: 13},
		"node n(): fix { return pre 1; } hybrid m() { }":                                           {Code: api.ErrInit, At: 23},
		"fun f(a: fix): fix = a; hybrid m() { let l: fix = 1" + strings.Repeat("+1", 2000) + "; }": {Code: api.ErrRoom, At: 24},
	} {
		p, fault := parse.Parse(s)
		if fault.Code != api.OK {
			t.Fatal(s, fault)
		}
		checkFault(t, s, p, want)
	}
	checkFault(t, "a kind that there isn't", api.Program{Decls: []api.Decl{{Kind: 9, At: 4}}}, api.Fault{Code: api.ErrForm})
	checkFault(t, "a part that there isn't", api.Program{Exprs: []api.Expr{{Kind: api.ExNeg}}, Decls: []api.Decl{{Kind: api.DeHybrid, Name: "m", At: 4}}}, api.Fault{Code: api.ErrForm})
	checkFault(t, "places below 0", api.Program{Decls: []api.Decl{{Kind: api.DeHybrid, At: -7}, {Kind: api.DeHybrid, At: -9}}}, api.Fault{Code: api.ErrName, At: -9})
}

// Objects in words: of any instructions, whatever they have.
func TestText(t *testing.T) { // P15.2
	const empty = "deriv:\nzero:\nstep:\nat:\n"
	if s := Text(api.Object{}); s != empty {
		t.Errorf("%q", s)
	}
	if s := Text(api.Object{In: []int{1}, Out: []int{2}, State: []int64{3}, Mem: []int64{4}, Cross: 5, Flags: 6}); s != empty {
		t.Errorf("%q", s)
	}
	least, greatest := int64(-1<<63), int64(1<<63-1)
	o := api.Object{
		Deriv: []api.Ins{{Op: 1, D: 2, A: 3, B: 4, C: 5, V: 6}, {Op: 20, D: -1, A: -2, B: -3, C: -4, V: -5}},
		Zero:  []api.Ins{{V: least}},
		Step:  []api.Ins{{Op: 22, V: greatest}, {Op: -1}, {Op: 23}, {Op: int(least)}, {Op: int(greatest), D: int(greatest), A: int(least)}},
		At:    []api.Ins{{Op: 4}},
	}
	want := "deriv:\n  0 const 2 3 4 5 6\n  1 put -1 -2 -3 -4 -5\nzero:\n  0 ? 0 0 0 0 -9223372036854775808\nstep:\n  0 set 0 0 0 0 9223372036854775807\n  1 ? 0 0 0 0 0\n  2 ? 0 0 0 0 0\n  3 ? 0 0 0 0 0\n  4 ? 9223372036854775807 -9223372036854775808 0 0 0\nat:\n  0 mem 0 0 0 0 0\n"
	if s := Text(o); s != want {
		t.Errorf("%q, wanted %q", s, want)
	}
	words := strings.Fields("? const in state mem cross neg not sqrt add sub mul div less most same and or pick skip put store set ?")
	var l []api.Ins
	want = "deriv:\nzero:\nstep:\nat:\n"
	for op, w := range words {
		l = append(l, api.Ins{Op: op, D: 10 * op})
		want += "  " + strconv.Itoa(op) + " " + w + " " + strconv.Itoa(10*op) + " 0 0 0 0\n"
	}
	if s := Text(api.Object{At: l}); s != want {
		t.Errorf("%q, wanted %q", s, want)
	}
}

// A program's object in words.
func TestTextOfProgram(t *testing.T) { // P15.1, P15.2
	s := `node count(a: fix): fix { let n: fix = 0 fby n + a; return n + a; }
hybrid tick(speed: fix) { der x = speed init 0; mem n: fix init 0; mem odd: bool init false; on x - 1 set n = count(1); on x - 1 set odd = true -> not pre odd; reset x on x - 1 = x - 1; out x; out n; out odd; }`
	want := `deriv:
  0 in 0 0 0 0 0
  1 put 0 0 0 0 0
zero:
  0 state 0 0 0 0 0
  1 const 1 0 0 0 4294967296
  2 sub 2 0 1 0 0
  3 put 0 2 0 0 0
  4 state 3 0 0 0 0
  5 const 4 0 0 0 4294967296
  6 sub 5 3 4 0 0
  7 put 1 5 0 0 0
  8 state 6 0 0 0 0
  9 const 7 0 0 0 4294967296
  10 sub 8 6 7 0 0
  11 put 2 8 0 0 0
step:
  0 cross 0 2 0 0 0
  1 skip 0 0 4 0 0
  2 state 1 0 0 0 0
  3 const 2 0 0 0 4294967296
  4 sub 3 1 2 0 0
  5 set 0 3 0 0 0
  6 cross 4 1 0 0 0
  7 skip 0 4 10 0 0
  8 mem 5 4 0 0 0
  9 const 6 0 0 0 1
  10 mem 7 5 0 0 0
  11 not 8 7 0 0 0
  12 pick 9 5 6 8 0
  13 const 10 0 0 0 0
  14 store 4 10 0 0 0
  15 mem 11 1 0 0 0
  16 store 5 11 0 0 0
  17 store 1 9 0 0 0
  18 cross 12 0 0 0 0
  19 skip 0 12 11 0 0
  20 const 13 0 0 0 4294967296
  21 mem 14 2 0 0 0
  22 mem 15 3 0 0 0
  23 const 16 0 0 0 0
  24 pick 17 14 16 15 0
  25 add 18 17 13 0 0
  26 const 19 0 0 0 0
  27 store 2 19 0 0 0
  28 add 20 17 13 0 0
  29 store 3 20 0 0 0
  30 store 0 18 0 0 0
at:
  0 state 0 0 0 0 0
  1 put 0 0 0 0 0
  2 mem 1 0 0 0 0
  3 put 1 1 0 0 0
  4 mem 2 1 0 0 0
  5 put 2 2 0 0 0
`
	o := objectOf(t, s, read(t, s))
	if got := Text(o); got != want {
		t.Error(got)
	}
	checkCells(t, s, o.Mem, 0, 0, 1, 0, 1, 0)
}
