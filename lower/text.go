package lower

import (
	"strconv"
	"strings"

	"astrolabe/api"
)

// words are what instructions are, by their Op.
var words = [...]string{"?", "const", "in", "state", "mem", "cross", "neg", "not", "sqrt", "add", "sub", "mul", "div", "less", "most", "same", "and", "or", "pick", "skip", "put", "store", "set"}

func Text(o api.Object) string {
	var b strings.Builder
	piece := func(name string, l []api.Ins) {
		b.WriteString(name + ":\n")
		for i, in := range l {
			b.WriteString("  " + strconv.Itoa(i) + " " + word(in.Op))
			for _, q := range [...]int64{int64(in.D), int64(in.A), int64(in.B), int64(in.C), in.V} {
				b.WriteString(" " + strconv.FormatInt(q, 10))
			}
			b.WriteByte('\n')
		}
	}
	piece("deriv", o.Deriv)
	piece("zero", o.Zero)
	piece("step", o.Step)
	piece("at", o.At)
	return b.String()
}

func word(op int) string {
	if op < 0 || op >= len(words) {
		return words[0]
	}
	return words[op]
}
