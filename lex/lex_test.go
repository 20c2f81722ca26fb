package lex

import (
	"reflect"
	"regexp"
	"slices"
	"strings"
	"testing"
	"unsafe"

	"astrolabe/api"
	"astrolabe/dec"
)

const one = api.One

var (
	allWords = strings.Fields("fun node hybrid let der init reset on up mem mode from goto out if then else pre fby true false not and or is sqrt return set fix bool")
	allSigns = strings.Fields("-> <= == ( ) { } , ; : = + - * / < .")
)

// The model: what the chapter says, said again by patterns.

var (
	gapForm    = regexp.MustCompile(`\A([ \t\n\r]|#[^\n]*)+`)
	nameForm   = regexp.MustCompile(`\A[a-zA-Z_][a-zA-Z0-9_]*`)
	numberForm = regexp.MustCompile(`\A[0-9]+(\.[0-9]+)?`)
	signForm   = regexp.MustCompile(`\A(->|<=|==|[(){},;:=+*/<.-])`)
)

// modelToken is the token that s begins with, and whether there is one.
func modelToken(s string) (api.Token, bool) {
	if text := nameForm.FindString(s); text != "" {
		if slices.Contains(allWords, text) {
			return word(text, 0), true
		}
		return name(text, 0), len(text) <= 16
	}
	if text := numberForm.FindString(s); text != "" {
		v, ok := dec.Parse(text)
		return number(text, v, 0), ok
	}
	text := signForm.FindString(s)
	return sign(text, 0), text != ""
}

func modelLex(s string) answer {
	if len(s) > 20000 {
		return answer{fault: api.Fault{Code: api.ErrRoom}}
	}
	var l []api.Token
	for at := 0; ; {
		at += len(gapForm.FindString(s[at:]))
		if at == len(s) {
			return answer{l: append(l, end(at))}
		}
		t, ok := modelToken(s[at:])
		if !ok {
			return fault(at)
		}
		t.At = at
		l = append(l, t)
		at += len(t.Text)
	}
}

// modelLine counts the bytes ahead of a place.
func modelLine(s string, at int) [2]int {
	line, column := 1, 1
	for i := 0; i < at && i < len(s); i++ {
		column++
		if s[i] == 10 {
			line, column = line+1, 1
		}
	}
	return [2]int{line, column}
}

type answer struct {
	l     []api.Token
	fault api.Fault
}

func told(l []api.Token, f api.Fault) answer { return answer{l, f} }

func same(a, b answer) bool {
	return a.fault == b.fault && slices.Equal(a.l, b.l)
}

func name(s string, at int) api.Token { return api.Token{Kind: api.TokName, Text: s, At: at} }
func word(s string, at int) api.Token { return api.Token{Kind: api.TokWord, Text: s, At: at} }
func sign(s string, at int) api.Token { return api.Token{Kind: api.TokSign, Text: s, At: at} }
func end(at int) api.Token            { return api.Token{Kind: api.TokEnd, At: at} }
func number(s string, v int64, at int) api.Token {
	return api.Token{Kind: api.TokNumber, Text: s, V: v, At: at}
}

func some(l ...api.Token) answer { return answer{l: l} }
func fault(at int) answer        { return answer{fault: api.Fault{Code: api.ErrLex, At: at}} }

// texts are joined of pieces, in all pairs, and at random.
func texts() []string {
	pieces := slices.Concat(allWords, allSigns, []string{
		"", " ", "\t", "\n", "\r", "# up -> 1\n", "#", "x", "_", "A9_", "Z", "0", "7", "00", "1.5", "0.0", ".5", "5.", "1e3", "fixed",
		"iff", "sqrt1", "_if", "If", "abcdefghijklmnop", "abcdefghijklmnopq", "2147483647", "2147483648", "12345678901",
		"@", ">", "\v", "\f", "\x00", "\x7f", "\x80", "\xff", "é", "[", "`", "{", "^", "/", ":", "!", "\"", "$", "%", "&", "'", "?", "\\", "]", "|", "~",
	})
	l := slices.Clone(pieces)
	for _, a := range pieces {
		for _, b := range pieces {
			l = append(l, a+b, "x "+a+b+" y")
		}
	}
	state := uint64(3)
	draw := func(n int) int {
		state = state*6364136223846793005 + 1442695040888963407
		return int(state>>33) % n
	}
	for range 20000 {
		var b strings.Builder
		for range draw(12) {
			// Those that are no tokens stand behind the others: they are drawn less often, so that most texts have some ahead of them.
			b.WriteString(pieces[draw(len(pieces)-draw(2)*35)])
			b.WriteString([]string{"", " "}[draw(2)])
		}
		l = append(l, b.String())
	}
	return l
}

func check(t *testing.T, cases map[string]answer) {
	t.Helper()
	for s, want := range cases {
		if got := told(Lex(s)); !same(got, want) {
			t.Errorf("Lex(%q): %v, wanted %v", s, got, want)
		}
	}
}

func TestLex(t *testing.T) { // P3.1
	check(t, map[string]answer{
		"x1 = 1.5;": some(name("x1", 0), sign("=", 3), number("1.5", 3*one/2, 5), sign(";", 8), end(9)),
		"fun f(a:fix):bool=not a<=-0.1;": some(
			word("fun", 0), name("f", 4), sign("(", 5), name("a", 6), sign(":", 7), word("fix", 8), sign(")", 11), sign(":", 12),
			word("bool", 13), sign("=", 17), word("not", 18), name("a", 22), sign("<=", 23), sign("-", 25),
			number("0.1", 429496729, 26), sign(";", 29), end(30)),
		"der x = v\n\tinit 0; # falls\n": some(
			word("der", 0), name("x", 4), sign("=", 6), name("v", 8), word("init", 11), number("0", 0, 16), sign(";", 17), end(27)),
	})
}

func TestGaps(t *testing.T) { // P3.1
	check(t, map[string]answer{
		"":               some(end(0)),
		" ":              some(end(1)),
		" \t\n\r":        some(end(4)),
		"#":              some(end(1)),
		"# a @ \xff é":   some(end(10)), // a comment ends with the text
		"#\n":            some(end(2)),  // or with a byte 10
		"#a\nb":          some(name("b", 3), end(4)),
		"#a\rb":          some(end(4)), // not with a byte 13
		"a#b":            some(name("a", 0), end(3)),
		"#a#b\n#c\n d#":  some(name("d", 9), end(11)),
		"##\n\n # \n#\n": some(end(10)),
		"a # b":          some(name("a", 0), end(5)),
		"- # b\n>":       fault(6),
		"a\tb\rc\nd":     some(name("a", 0), name("b", 2), name("c", 4), name("d", 6), end(7)),
		"a\vb":           fault(1), // other bytes are no gaps
		"a\fb":           fault(1),
		"a\x00b":         fault(1),
		"a\x1fb":         fault(1),
		"a\u00a0b":       fault(1),
	})
}

func TestRoom(t *testing.T) { // P3.1
	most := func(s string, n int) string { return strings.Repeat(s, 20000/len(s)) + strings.Repeat(" ", n) }
	room := answer{fault: api.Fault{Code: api.ErrRoom}}
	for _, s := range []string{"a ", "(", " ", "#", "1 ", "if ", "# \n", "@", strings.Repeat("a", 20000), strings.Repeat("1", 20000)} {
		s = most(s, 20000%len(s))
		if got, want := told(Lex(s)), modelLex(s); !same(got, want) {
			t.Errorf("Lex of 20,000 bytes of %q: %v", s[:3], got.fault)
		}
		for _, more := range []string{"a", " ", "\n", "@", s} {
			if got := told(Lex(s + more)); !same(got, room) {
				t.Errorf("Lex of %d bytes of %q: %v", len(s+more), s[:3], got.fault)
			}
		}
	}
	if l, _ := Lex(most("(", 0)); len(l) != 20001 || l[19999] != sign("(", 19999) || l[20000] != end(20000) {
		t.Error("20,000 signs aren't read")
	}
	// There is no room ahead of what is no token.
	if got := told(Lex("@" + most(" ", 0))); !same(got, room) {
		t.Error(got.fault)
	}
}

func TestNames(t *testing.T) { // P3.1
	check(t, map[string]answer{
		"a":                     some(name("a", 0), end(1)),
		"_":                     some(name("_", 0), end(1)),
		"z_9":                   some(name("z_9", 0), end(3)),
		"AZaz09__":              some(name("AZaz09__", 0), end(8)),
		"_1":                    some(name("_1", 0), end(2)),
		"9a":                    some(number("9", 9*one, 0), name("a", 1), end(2)),
		"1_0":                   some(number("1", one, 0), name("_0", 1), end(3)),
		"a.b":                   some(name("a", 0), sign(".", 1), name("b", 2), end(3)),
		"a-b":                   some(name("a", 0), sign("-", 1), name("b", 2), end(3)),
		"a1.5":                  some(name("a1", 0), sign(".", 2), number("5", 5*one, 3), end(4)),
		"abcdefghijklmnop":      some(name("abcdefghijklmnop", 0), end(16)),
		"abcdefghijklmno1":      some(name("abcdefghijklmno1", 0), end(16)),
		"________________ ":     some(name("________________", 0), end(17)),
		"abcdefghijklmnop+":     some(name("abcdefghijklmnop", 0), sign("+", 16), end(17)),
		"abcdefghijklmnopq":     fault(0),
		"abcdefghijklmnop1":     fault(0),
		"_________________ ":    fault(0),
		"x abcdefghijklmnop_":   fault(2),
		"(abcdefghijklmnopq)":   fault(1),
		"1abcdefghijklmnopq":    fault(1),
		"abcdefghijklmnop qrst": some(name("abcdefghijklmnop", 0), name("qrst", 17), end(21)),
		"fbyfbyfbyfbyfbyfby":    fault(0), // too long, though it begins with words
		"a\xe9":                 fault(1),
	})
}

func TestWordsInTheirPlaces(t *testing.T) { // P3.1
	for _, w := range allWords {
		check(t, map[string]answer{
			w:             some(word(w, 0), end(len(w))),
			" " + w + ";": some(word(w, 1), sign(";", len(w)+1), end(len(w)+2)),
			w + "1":       some(name(w+"1", 0), end(len(w)+1)),
			w + "_":       some(name(w+"_", 0), end(len(w)+1)),
			w + w:         some(name(w+w, 0), end(2*len(w))),
			"_" + w:       some(name("_"+w, 0), end(len(w)+1)),
			w[:1]:         some(name(w[:1], 0), end(1)),
			w + "." + w:   some(word(w, 0), sign(".", len(w)), word(w, len(w)+1), end(2*len(w)+1)),
			"1" + w:       some(number("1", one, 0), word(w, 1), end(len(w)+1)),
		})
		if up := strings.ToUpper(w); !same(told(Lex(up)), some(name(up, 0), end(len(w)))) {
			t.Errorf("Lex(%q)", up)
		}
	}
}

func TestNumbers(t *testing.T) { // P3.1
	check(t, map[string]answer{
		"0":     some(number("0", 0, 0), end(1)),
		"10.50": some(number("10.50", 21*one/2, 0), end(5)),
		"0.1":   some(number("0.1", 429496729, 0), end(3)),
		// A point without a digit behind it is a sign.
		"1.":     some(number("1", one, 0), sign(".", 1), end(2)),
		"1.x":    some(number("1", one, 0), sign(".", 1), name("x", 2), end(3)),
		"1. 5":   some(number("1", one, 0), sign(".", 1), number("5", 5*one, 3), end(4)),
		"1 .5":   some(number("1", one, 0), sign(".", 2), number("5", 5*one, 3), end(4)),
		".5":     some(sign(".", 0), number("5", 5*one, 1), end(2)),
		"1.#\n5": some(number("1", one, 0), sign(".", 1), number("5", 5*one, 4), end(5)),
		"1./":    some(number("1", one, 0), sign(".", 1), sign("/", 2), end(3)),
		"1.:":    some(number("1", one, 0), sign(".", 1), sign(":", 2), end(3)),
		// Two points.
		"1..5":    some(number("1", one, 0), sign(".", 1), sign(".", 2), number("5", 5*one, 3), end(4)),
		"1.5.":    some(number("1.5", 3*one/2, 0), sign(".", 3), end(4)),
		"1.5.2":   some(number("1.5", 3*one/2, 0), sign(".", 3), number("2", 2*one, 4), end(5)),
		"1.5.2.5": some(number("1.5", 3*one/2, 0), sign(".", 3), number("2.5", 5*one/2, 4), end(7)),
		"..":      some(sign(".", 0), sign(".", 1), end(2)),
		// What is no literal, or too great: no less of it is taken.
		"00":     fault(0),
		"01":     fault(0),
		"01.5":   fault(0),
		"x 007":  fault(2),
		"1.5.00": fault(4),
		"-01":    fault(1),
		"a+00":   fault(2),
		"1234567890": some(number("1234567890", 1234567890*one, 0),
			end(10)),
		"12345678901":                        fault(0),
		"12345678901.5":                      fault(0),
		"1." + strings.Repeat("0", 40):       some(number("1."+strings.Repeat("0", 40), one, 0), end(42)),
		"1." + strings.Repeat("0", 41):       fault(0),
		"2147483647":                         some(number("2147483647", 2147483647*one, 0), end(10)),
		"2147483648":                         fault(0),
		"2147483647.9999999999":              some(number("2147483647.9999999999", 1<<63-1, 0), end(21)),
		"2147483648.0":                       fault(0),
		"4294967296":                         fault(0),
		"9999999999":                         fault(0),
		"-2147483648":                        fault(1), // the sign is a token of its own
		"9999999999x":                        fault(0),
		"0x10":                               some(number("0", 0, 0), name("x10", 1), end(4)),
		"1e3":                                some(number("1", one, 0), name("e3", 1), end(3)),
		"1,5":                                some(number("1", one, 0), sign(",", 1), number("5", 5*one, 2), end(3)),
		"٣":                                  fault(0),
		"18446744073709551617":               fault(0),
		"1" + strings.Repeat("9", 19998):     fault(0),
		"1." + strings.Repeat("9", 19998):    fault(0),
		"x" + strings.Repeat("9", 15) + ".5": some(name("x999999999999999", 0), sign(".", 16), number("5", 5*one, 17), end(18)),
	})
}

func TestSigns(t *testing.T) { // P3.1
	for _, s := range allSigns {
		check(t, map[string]answer{
			s:             some(sign(s, 0), end(len(s))),
			"a" + s:       some(name("a", 0), sign(s, 1), end(len(s)+1)),
			s + " ":       some(sign(s, 0), end(len(s)+1)),
			"a" + s + "b": some(name("a", 0), sign(s, 1), name("b", len(s)+1), end(len(s)+2)),
		})
	}
	check(t, map[string]answer{
		"-->":  some(sign("-", 0), sign("->", 1), end(3)),
		"->-":  some(sign("->", 0), sign("-", 2), end(3)),
		"<-":   some(sign("<", 0), sign("-", 1), end(2)),
		"<->":  some(sign("<", 0), sign("->", 1), end(3)),
		"<==":  some(sign("<=", 0), sign("=", 2), end(3)),
		"<===": some(sign("<=", 0), sign("==", 2), end(4)),
		"===":  some(sign("==", 0), sign("=", 2), end(3)),
		"=<":   some(sign("=", 0), sign("<", 1), end(2)),
		"<<=":  some(sign("<", 0), sign("<=", 1), end(3)),
		"- >":  fault(2),
		"< =":  some(sign("<", 0), sign("=", 2), end(3)),
		"= =":  some(sign("=", 0), sign("=", 2), end(3)),
		// What begins no sign of two, at the text's end.
		"x-": some(name("x", 0), sign("-", 1), end(2)),
		"x<": some(name("x", 0), sign("<", 1), end(2)),
		"x=": some(name("x", 0), sign("=", 1), end(2)),
		">":  fault(0),
		">=": fault(0),
		"=>": fault(1),
		"!=": fault(0),
	})
}

// Each byte at a token's place is a gap, begins one, or a token, or is none.
func TestBytes(t *testing.T) { // P3.1
	for b := range 256 {
		s := "x " + string([]byte{byte(b)})
		got, want := told(Lex(s)), fault(2)
		if strings.IndexByte(" \t\n\r#", byte(b)) >= 0 {
			want = some(name("x", 0), end(3))
		} else if t, ok := modelToken(s[2:]); ok {
			t.At = 2
			want = some(name("x", 0), t, end(3))
		}
		if !same(got, want) {
			t.Errorf("byte %d: %v, wanted %v", b, got, want)
		}
		if b > 127 && !same(got, fault(2)) {
			t.Errorf("byte %d is taken", b)
		}
	}
	check(t, map[string]answer{
		"a @ $":    fault(2), // the first of two
		"x é":      fault(2),
		"\xff":     fault(0),
		"a\x80":    fault(1),
		"1\xb2":    fault(1),
		"#é\n":     some(end(4)),
		"let é":    fault(4),
		"\ufeffa":  fault(0),
		"a\u2028b": fault(1),
	})
}

func TestWord(t *testing.T) { // P3.2
	for _, w := range allWords {
		if !Word(w) {
			t.Errorf("%q is no word", w)
		}
		for _, s := range []string{w + " ", " " + w, w + "1", w + w, w[1:], w + "\x00", strings.ToUpper(w), strings.ToUpper(w[:1]) + w[1:]} {
			if Word(s) && !slices.Contains(allWords, s) {
				t.Errorf("%q is a word", s)
			}
		}
	}
	if len(words()) != len(allWords) {
		t.Errorf("%d words", len(words()))
	}
	for _, s := range []string{"", " ", "x", "i", "Fby", "fix ", "ifthen", "down", "let der", "abs", "->", "1", "true\n", strings.Repeat("if", 1<<20)} {
		if Word(s) {
			t.Errorf("%.20q is a word", s)
		}
	}
}

func TestLine(t *testing.T) { // P3.2
	const far = int(^uint(0) >> 1)
	for _, c := range []struct {
		s            string
		at           int
		line, column int
	}{
		{"", 0, 1, 1}, {"", 1, 1, 1}, {"", -1, 1, 1},
		{"ab\ncd", 0, 1, 1}, {"ab\ncd", 1, 1, 2},
		{"ab\ncd", 2, 1, 3}, // the byte 10 stands at its line's end
		{"ab\ncd", 3, 2, 1}, {"ab\ncd", 4, 2, 2},
		{"ab\ncd", 5, 2, 3}, {"ab\ncd", 6, 2, 3}, {"ab\ncd", far, 2, 3},
		{"ab\ncd", -1, 1, 1}, {"ab\ncd", -far - 1, 1, 1},
		{"\n", 0, 1, 1}, {"\n", 1, 2, 1}, {"\n", 2, 2, 1},
		{"\n\n\n", 2, 3, 1}, {"\n\n\n", 3, 4, 1},
		{"a\r\nb", 1, 1, 2}, {"a\r\nb", 2, 1, 3}, {"a\r\nb", 3, 2, 1},
		{"a\rb", 2, 1, 3},
		{"\té\nx", 3, 1, 4}, // in bytes
		{"\té\nx", 4, 2, 1},
		{"# a\n @", 5, 2, 2}, // of any text, a comment's lines too
	} {
		if line, column := Line(c.s, c.at); line != c.line || column != c.column {
			t.Errorf("Line(%q, %d): %d, %d, wanted %d, %d", c.s, c.at, line, column, c.line, c.column)
		}
	}
	// Also of a text that is too long to be read.
	if line, column := Line(strings.Repeat("ab\n", 10000)+"c", 30001); line != 10001 || column != 2 {
		t.Error(line, column)
	}
}

func TestLineAsModel(t *testing.T) { // P3.2
	for i, s := range texts() {
		if i%7 != 0 && !strings.Contains(s, "\n") {
			continue
		}
		for at := -2; at <= len(s)+2; at++ {
			line, column := Line(s, at)
			if want := modelLine(s, at); [2]int{line, column} != want {
				t.Errorf("Line(%q, %d): %d, %d, wanted %v", s, at, line, column, want)
			}
		}
	}
}

func TestJoin(t *testing.T) { // P3.3
	a, b := name("a", 0), name("b", 7)
	for _, c := range []struct {
		l    []api.Token
		want string
	}{
		{nil, ""},
		{[]api.Token{}, ""},
		{[]api.Token{end(0)}, ""},
		{[]api.Token{end(0), end(5)}, ""},
		{[]api.Token{a}, "a"},
		{[]api.Token{a, end(1)}, "a"},
		{[]api.Token{a, b}, "a b"},
		{[]api.Token{a, b, end(8)}, "a b"},
		// Ends aside, wherever they stand.
		{[]api.Token{end(0), a, b}, "a b"},
		{[]api.Token{a, end(1), b}, "a b"},
		{[]api.Token{end(0), a, end(1), end(1), b, end(8)}, "a b"},
		{[]api.Token{{Kind: api.TokEnd, Text: "end"}, b}, "b"},
		{[]api.Token{number("1.50", 0, 3), sign("->", 1), word("if", 0)}, "1.50 -> if"},
		// Any texts, also those of no token.
		{[]api.Token{{Text: "x"}, {Kind: 99, Text: "y z"}, {Kind: -1, Text: "\xff"}}, "x y z \xff"},
		{[]api.Token{a, {Kind: api.TokName}, b}, "a  b"},
		{[]api.Token{{}, {}}, " "},
	} {
		if got := Join(c.l); got != c.want {
			t.Errorf("Join(%v): %q, wanted %q", c.l, got, c.want)
		}
	}
}

func TestTextsAsModel(t *testing.T) { // P3.1
	right := 0
	for _, s := range texts() {
		got, want := told(Lex(s)), modelLex(s)
		if !same(got, want) {
			t.Errorf("Lex(%q): %v, wanted %v", s, got, want)
		}
		if got.fault == (api.Fault{}) {
			right++
		}
	}
	if right < 2000 {
		t.Errorf("only %d texts have tokens", right)
	}
}

func TestWhatFollows(t *testing.T) { // P3.4
	for _, s := range texts() {
		l, f := Lex(s)
		if f != (api.Fault{}) {
			continue
		}
		joined := Join(l)
		again, f := Lex(joined)
		if f != (api.Fault{}) || len(again) != len(l) {
			t.Errorf("Lex(Join(Lex(%q))): %v, %v", s, again, f)
			continue
		}
		for i := range l {
			if l[i].At, again[i].At = 0, 0; l[i] != again[i] {
				t.Errorf("Lex(Join(Lex(%q))): %v, wanted %v", s, again[i], l[i])
			}
		}
		if got := Join(again); got != joined {
			t.Errorf("Join: %q, then %q", joined, got)
		}
	}
}

// overwritten tells what a call answers once the bytes of the text that it was given are others.
func overwritten[T any](s string, call func(string) T) T {
	b := []byte(s)
	got := call(unsafe.String(unsafe.SliceData(b), len(b)))
	clear(b)
	return got
}

// What is answered shares no memory with what was handed in.
func TestMemory(t *testing.T) { // P3.1, P3.3, rule 5
	const s = "let x_1 = 1.5 -> y; # z"
	got := overwritten(s, func(s string) answer { return told(Lex(s)) })
	if !same(got, modelLex(s)) {
		t.Errorf("Lex shares its text: %v", got.l)
	}
	joined := func(s string) string { return Join([]api.Token{name(s, 0), end(9)}) }
	if got := overwritten("alone", joined); got != "alone" {
		t.Errorf("Join shares its token's text: %q", got)
	}
	l, _ := Lex(s)
	kept := slices.Clone(l)
	Join(l)
	other, _ := Lex(s)
	clear(other)
	if again, _ := Lex(s); !reflect.DeepEqual(l, kept) || !reflect.DeepEqual(again, kept) {
		t.Error("Lex or Join has changed what was handed in, or told")
	}
}
