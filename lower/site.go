package lower

import (
	"slices"

	"astrolabe/api"
	"astrolabe/names"
)

// site is a declaration where code is made: what its names are, and which of their sort. Those that calls lead to are kept by their names, so that each is made once.
type site struct {
	p      api.Program
	decl   api.Decl
	things map[string]thing
	mems   int
	called map[string]*site
}

// thing is what a name is, and which of that sort, from 0 on.
type thing struct {
	api.Var
	number int
}

// hybridOf is the hybrid of a program without faults: there is one.
func hybridOf(p api.Program) *site {
	isHybrid := func(d api.Decl) bool { return d.Kind == api.DeHybrid }
	return siteOf(p, slices.IndexFunc(p.Decls, isHybrid), map[string]*site{})
}

func siteOf(p api.Program, d int, called map[string]*site) *site {
	things, count := map[string]thing{}, map[int]int{}
	for _, v := range names.Vars(p, d) {
		things[v.Name] = thing{v, count[v.Sort]}
		count[v.Sort]++
	}
	return &site{p, p.Decls[d], things, count[api.VarMem], called}
}

// declared is the declaration of a name.
func (h *site) declared(name string) *site {
	if _, ok := h.called[name]; !ok {
		h.called[name] = siteOf(h.p, names.Decl(h.p, name), h.called)
	}
	return h.called[name]
}

// items are the declaration's items of some kinds, in order.
func (h *site) items(kinds ...int) []api.Item {
	var l []api.Item
	for _, it := range h.decl.Items {
		if slices.Contains(kinds, it.Kind) {
			l = append(l, it)
		}
	}
	return l
}

// memory is that of a mode: modes stand behind mems.
func (h *site) memory(mode string) int {
	return h.mems + h.things[mode].number
}

// state is which of a mode's states one is.
func (h *site) state(mode, state string) int64 {
	it := h.decl.Items[h.things[mode].Index]
	return int64(slices.Index(it.States, state))
}
