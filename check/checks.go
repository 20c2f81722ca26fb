package check

import (
	"slices"

	"astrolabe/api"
	"astrolabe/calls"
	"astrolabe/caus"
	"astrolabe/inits"
	"astrolabe/kinds"
	"astrolabe/names"
	"astrolabe/types"
)

// check tells the faults that a program has, if those ahead of it found none.
type check func(p api.Program) []api.Fault

// checks are all of them, in the order in which they are asked. (A table of functions has no place at package level.)
func checks() [8]check {
	return [...]check{
		names.Faults,
		single(api.ErrForm, mayNotBe),
		types.Faults,
		kinds.Faults,
		calls.Faults,
		caus.Faults,
		inits.Faults,
		single(api.ErrRoom, tooMuch),
	}
}

// single is a check for one fault alone: found tells where that stands, and whether it is there.
func single(code api.Errno, found func(p api.Program) (int, bool)) check {
	return func(p api.Program) []api.Fault {
		if at, ok := found(p); ok {
			return []api.Fault{{Code: code, At: at}}
		}
		return nil
	}
}

// mayNotBe is asked of programs without faults of names: what may not be has none, and isn't right all the same.
func mayNotBe(p api.Program) (int, bool) {
	return 0, !names.Right(p)
}

// tooMuch is asked of programs that are right: they have one hybrid.
func tooMuch(p api.Program) (int, bool) {
	hybrid := slices.IndexFunc(p.Decls, func(d api.Decl) bool { return d.Kind == api.DeHybrid })
	return p.Decls[hybrid].At, calls.Size(p, hybrid) > api.MaxFlat
}
