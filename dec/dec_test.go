package dec

import (
	"math"
	"math/big"
	"regexp"
	"strings"
	"testing"

	"astrolabe/api"
)

const (
	one   = api.One
	most  = math.MaxInt64
	least = math.MinInt64
)

// texts of the greatest number and of the least one above 0.
const (
	mostText = "2147483647.99999999976716935634613037109375"
	tiny     = "0.00000000023283064365386962890625"
)

type answer struct {
	q  int64
	ok bool
}

func told(q int64, ok bool) answer { return answer{q, ok} }

var none = answer{}

// The model: what the chapter says, said again with whole numbers and quotients that have no end.

var form = regexp.MustCompile(`\A(0|[1-9][0-9]{0,9})(\.[0-9]{1,40})?\z`)

// modelNumber is the number of a literal by 2^32, however great it is.
func modelNumber(s string) *big.Int {
	x, _ := new(big.Rat).SetString(s)
	x.Mul(x, new(big.Rat).SetInt64(one))
	return new(big.Int).Quo(x.Num(), x.Denom())
}

func modelParse(s string) answer {
	if !form.MatchString(s) || modelNumber(s).Cmp(big.NewInt(most)) > 0 {
		return none
	}
	return answer{modelNumber(s).Int64(), true}
}

func modelSigned(s string) answer {
	rest, below := strings.CutPrefix(s, "-")
	if !below {
		return modelParse(s)
	}
	if !form.MatchString(rest) {
		return none
	}
	x := modelNumber(rest)
	x.Neg(x)
	if x.Cmp(big.NewInt(least)) < 0 {
		return none
	}
	return answer{x.Int64(), true}
}

// trimmed is a text with a point, without the digits 0 at its end.
func trimmed(s string) string {
	return strings.TrimSuffix(strings.TrimRight(s, "0"), ".")
}

// modelText has all digits: a number by 2^32 has no more than 32 behind its point.
func modelText(q int64) string {
	return trimmed(new(big.Rat).SetFrac(big.NewInt(q), big.NewInt(one)).FloatString(32))
}

func modelShort(q int64, n int) string {
	n = max(0, min(n, 32))
	ahead, behind, _ := strings.Cut(modelText(q), ".")
	return trimmed(ahead + "." + behind[:min(n, len(behind))])
}

// numbers are the ends, what is near to 0, to whole numbers and to powers of 2, and some in between, at each scale.
func numbers() []int64 {
	l := []int64{least, least + 1, least + one, most, most - 1, most - one, 0, 429496729, one / 3, 10 * one, 100 * one, 1000000000 * one, 999999999*one + 1}
	for i := range 63 {
		at := int64(1) << i
		for _, q := range []int64{at - 1, at, at + 1} {
			l = append(l, q, -q)
		}
	}
	state := uint64(2)
	for i := range 400 {
		state = state*6364136223846793005 + 1442695040888963407
		l = append(l, int64(state)>>(i%60))
	}
	return l
}

// texts are those named here, each of them with one byte less, other, or more, and literals of all lengths.
func texts() []string {
	l := []string{"", "-", "--1", "+1", "1e3", " 1", "1 ", "0x1", "1_0", "NaN", "1/2", "1,5", "1.2.3", ".5", "5.", ".", "-.", "٣", "१.१", "1\x00", "\xff"}
	kept := []string{"0", "7", "0.1", "10.05", "2147483647", "2147483648", "2147483648.0", "4294967296", "9999999999", mostText, tiny, "2147483648.0000000002"}
	for _, s := range kept {
		l = append(l, s)
		for i := range len(s) + 1 {
			for _, b := range []string{"", "0", "5", "9", ".", "-", "/", ":", "a"} {
				l = append(l, s[:i]+b+s[i:])
				if i < len(s) {
					l = append(l, s[:i]+b+s[i+1:])
				}
			}
		}
	}
	state := uint64(3)
	digit := func() byte {
		state = state*6364136223846793005 + 1442695040888963407
		return '0' + byte(state>>60)%10
	}
	for ahead := range 13 {
		for behind := range 43 {
			var b strings.Builder
			for range ahead {
				b.WriteByte(digit())
			}
			if behind > 0 {
				b.WriteByte('.')
			}
			for range behind - 1 {
				b.WriteByte(digit())
			}
			l = append(l, b.String())
		}
	}
	for _, s := range l {
		l = append(l, "-"+s)
	}
	return l
}

func TestParse(t *testing.T) { // P2.1
	for s, want := range map[string]answer{
		"0":     {0, true},
		"1":     {one, true},
		"0.5":   {one / 2, true},
		"12.25": {49 * one / 4, true},
		"0.1":   {429496729, true}, // the greatest one that isn't above it
		"0.0":   {0, true},
		"1.50":  {3 * one / 2, true},
		// Digits ahead of the point: 10, and 11; a digit 0 ahead of others.
		"1000000000":   {1000000000 * one, true},
		"10000000000":  none,
		"00000000001":  none,
		"0000000001":   none,
		"00":           none,
		"01":           none,
		"00.5":         none,
		"01.5":         none,
		"1000000000.5": {1000000000*one + one/2, true},
		// Digits behind it: 40, and 41; none.
		"0." + strings.Repeat("0", 39) + "1": {0, true},
		"0." + strings.Repeat("9", 40):       {one - 1, true},
		"0." + strings.Repeat("9", 41):       none,
		"0." + strings.Repeat("0", 41):       none,
		"1." + strings.Repeat("0", 40):       {one, true},
		"1.":                                 none,
		".5":                                 none,
		".":                                  none,
		// The least number above 0, and just above and below it.
		tiny:                                 {1, true},
		tiny + "00000000":                    {1, true},
		tiny + "00000001":                    {1, true},
		tiny + "000000000":                   none,
		"0.00000000023283064365386962890624": {0, true},
		"0.0000000002328306436538696289062499999999": {0, true},
		"0.00000000046566128730773925781249":         {1, true},
		"0.0000000004656612873077392578125":          {2, true},
		// The greatest number, and just above and below it.
		mostText:              {most, true},
		mostText + "00000000": {most, true},
		mostText + "00000001": {most, true},
		"2147483647.99999999976716935634613037109374":     {most - 1, true},
		"2147483647." + strings.Repeat("9", 40):           {most, true},
		"2147483648":                                      none,
		"2147483648.0":                                    none,
		"2147483648." + strings.Repeat("0", 39) + "1":     none,
		"4294967295.5":                                    none,
		"4294967296":                                      none, // it would wrap round to 0
		"4294967297.5":                                    none,
		"6442450944":                                      none,
		"9999999999":                                      none,
		"9999999999." + strings.Repeat("9", 40):           none,
		"18446744073709551617":                            none,
		"99999999999999999999." + strings.Repeat("9", 40): none,
		// What is no literal.
		"":       none,
		"-":      none,
		"-1":     none,
		"-0":     none,
		"+1":     none,
		" 1":     none,
		"1 ":     none,
		"1\n":    none,
		"1e3":    none,
		"1_000":  none,
		"0x10":   none,
		"1,5":    none,
		"1..5":   none,
		"1.5.":   none,
		"1.-5":   none,
		"1.5a":   none,
		"/":      none, // the bytes beside the digits'
		":":      none,
		"0./":    none,
		"0.:":    none,
		"٣":      none, // a digit, but no decimal one of ASCII
		"1.\xb9": none,
	} {
		if got := told(Parse(s)); got != want {
			t.Errorf("Parse(%q): %v, wanted %v", s, got, want)
		}
	}
}

func TestSigned(t *testing.T) { // P2.1
	for s, want := range map[string]answer{
		"5":         {5 * one, true},
		"0.1":       {429496729, true},
		"-1":        {-one, true},
		"-0.1":      {-429496729, true}, // below 0 as far as it is above: no further
		"-0":        {0, true},
		"-0.0":      {0, true},
		"-" + tiny:  {-1, true},
		"-0.000001": {-4294, true},
		// The ends, and just above and below them.
		mostText:                                       {most, true},
		"2147483648":                                   none,
		"2147483648.0":                                 none,
		"2147483648.0000000001":                        none,
		"-" + mostText:                                 {-most, true},
		"-2147483647." + strings.Repeat("9", 40):       {-most, true},
		"-2147483648":                                  {least, true},
		"-2147483648.0":                                {least, true},
		"-2147483648." + strings.Repeat("0", 40):       {least, true},
		"-2147483648." + strings.Repeat("0", 41):       none,
		"-2147483648.0000000001":                       {least, true}, // its number would be the same
		"-2147483648.00000000023283064365386962890624": {least, true},
		"-2147483648.00000000023283064365386962890625": none,
		"-2147483648.1":                                none,
		"-2147483649":                                  none,
		"-4294967296":                                  none,
		"-4294967297":                                  none,
		"-6442450944":                                  none,
		"-9999999999":                                  none,
		"-10000000000":                                 none,
		"-00":                                          none,
		"-01":                                          none,
		"":                                             none,
		"-":                                            none,
		"--":                                           none,
		"--1":                                          none,
		"--2147483648":                                 none,
		"+1":                                           none,
		"-+1":                                          none,
		"- 1":                                          none,
		" -1":                                          none,
		"1-":                                           none,
		"-.5":                                          none,
		"-5.":                                          none,
		"\u22121":                                      none,
		"-1e3":                                         none,
		"-18446744073709551617":                        none,
	} {
		if got := told(Signed(s)); got != want {
			t.Errorf("Signed(%q): %v, wanted %v", s, got, want)
		}
	}
}

func TestPrint(t *testing.T) { // P2.2
	for q, want := range map[int64]string{
		0:              "0",
		1:              tiny,
		-1:             "-" + tiny,
		429496729:      "0.09999999986030161380767822265625",
		one / 2:        "0.5",
		-one / 2:       "-0.5",
		one - 1:        "0.99999999976716935634613037109375",
		one:            "1",
		-one:           "-1",
		one + 1:        "1.00000000023283064365386962890625",
		10 * one:       "10",
		100 * one:      "100",
		-1020 * one:    "-1020",
		one / 16:       "0.0625",
		most:           mostText,
		least:          "-2147483648",
		least + 1:      "-" + mostText,
		least + one/2:  "-2147483647.5",
		-1500 * one:    "-1500",
		25 * one / 2:   "12.5",
		one*20 + one/4: "20.25",
	} {
		if got := Print(q); got != want {
			t.Errorf("Print(%d): %q, wanted %q", q, got, want)
		}
	}
}

func TestLiteral(t *testing.T) { // P2.2
	for s, want := range map[string]bool{
		"0":                                     true,
		"9":                                     true,
		"0.0":                                   true,
		"10":                                    true,
		"1234567890":                            true,
		"1234567890." + strings.Repeat("0", 40): true,
		"2147483648":                            true, // too great, but a literal
		"4294967296":                            true,
		"9999999999":                            true,
		"9999999999." + strings.Repeat("9", 40): true,
		"9999999999." + strings.Repeat("9", 41): false,
		"12345678901":                           false,
		"12345678901.5":                         false,
		"0123456789":                            false,
		"00":                                    false,
		"01":                                    false,
		"00.1":                                  false,
		"0." + strings.Repeat("7", 40):          true,
		"0." + strings.Repeat("7", 41):          false,
		"":                                      false,
		".":                                     false,
		"1.":                                    false,
		".1":                                    false,
		"1.1.1":                                 false,
		"-1":                                    false,
		"-0":                                    false,
		"+1":                                    false,
		"1a":                                    false,
		"1.a":                                   false,
		"1 ":                                    false,
	} {
		if got := Literal(s); got != want {
			t.Errorf("Literal(%q): %v", s, got)
		}
	}
}

func TestShort(t *testing.T) { // P2.3
	for _, c := range []struct {
		q    int64
		n    int
		want string
	}{
		{429496729, 3, "0.099"}, // cut off, not rounded
		{429496729, 1, "0"},
		{429496729, 2, "0.09"},
		{-429496729, 2, "-0.09"},
		{-429496729, 1, "-0"}, // the minus stays, also of what is cut to 0
		{-1, 0, "-0"},
		{-1, 9, "-0"},
		{-1, 10, "-0.0000000002"},
		{1, 9, "0"},
		{0, 0, "0"},
		{0, 32, "0"},
		{one / 2, 1, "0.5"},
		{one / 2, 32, "0.5"},
		{one / 2, 0, "0"},
		{-3 * one / 2, 0, "-1"},
		{10 * one, 0, "10"}, // a digit 0 ahead of the point stays
		{100*one + one/2, 0, "100"},
		{one + 1, 3, "1"}, // neither digits 0 at the end, nor a point without digits
		{one + one/2 + 1, 5, "1.5"},
		{most, 0, "2147483647"},
		{most, 9, "2147483647.999999999"},
		{most, 31, mostText[:len(mostText)-1]},
		{most, 32, mostText},
		{least, 0, "-2147483648"},
		{least, 32, "-2147483648"},
		{least + 1, 0, "-2147483647"},
		// n is held to 0 and 32.
		{most, -1, "2147483647"},
		{most, math.MinInt, "2147483647"},
		{most, 33, mostText},
		{most, math.MaxInt, mostText},
		{-1, -5, "-0"},
		{-1, 64, "-" + tiny},
	} {
		if got := Short(c.q, c.n); got != c.want {
			t.Errorf("Short(%d, %d): %q, wanted %q", c.q, c.n, got, c.want)
		}
	}
}

func TestTextsAsModel(t *testing.T) { // P2.1, P2.2
	for _, s := range texts() {
		if got, want := told(Parse(s)), modelParse(s); got != want {
			t.Errorf("Parse(%q): %v, wanted %v", s, got, want)
		}
		if got, want := told(Signed(s)), modelSigned(s); got != want {
			t.Errorf("Signed(%q): %v, wanted %v", s, got, want)
		}
		if got, want := Literal(s), form.MatchString(s); got != want {
			t.Errorf("Literal(%q): %v, wanted %v", s, got, want)
		}
	}
}

func TestNumbersAsModel(t *testing.T) { // P2.2, P2.3
	for _, q := range numbers() {
		if got, want := Print(q), modelText(q); got != want {
			t.Errorf("Print(%d): %q, wanted %q", q, got, want)
		}
		for n := -1; n <= 34; n++ {
			if got, want := Short(q, n), modelShort(q, n); got != want {
				t.Errorf("Short(%d, %d): %q, wanted %q", q, n, got, want)
			}
		}
	}
}

func TestWhatFollows(t *testing.T) { // P2.4
	for _, q := range numbers() {
		if got := told(Signed(Print(q))); got != (answer{q, true}) {
			t.Errorf("Signed(Print(%d)): %v", q, got)
		}
		if q >= 0 && !Literal(Print(q)) {
			t.Errorf("Print(%d) is no literal: %q", q, Print(q))
		}
		if q >= 0 && told(Parse(Print(q))) != (answer{q, true}) {
			t.Errorf("Parse(Print(%d)): %v", q, told(Parse(Print(q))))
		}
	}
}

// A long text is refused, or read, like any other.
func TestLongTexts(t *testing.T) { // P2.1, P2.2
	for _, s := range []string{strings.Repeat("1", 1<<20), strings.Repeat(".", 1<<20), "1." + strings.Repeat("0", 1<<20), strings.Repeat("-", 1<<20)} {
		if told(Parse(s)) != none || told(Signed(s)) != none || told(Signed("-"+s)) != none || Literal(s) {
			t.Errorf("a text of %d bytes is read", len(s))
		}
	}
}
