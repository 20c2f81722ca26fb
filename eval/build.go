package eval

import (
	"slices"

	"astrolabe/api"
	"astrolabe/ast"
	"astrolabe/names"
)

// node is an expression of a declaration: its parts, what its name is there, what it calls.
type node struct {
	kind     int
	v        int64 // of ExIs which state
	parts    []*node
	name     thing
	called   *declaration
	constant bool // whether it stands, itself, in a constant place of the hybrid
}

// thing is what a name is: its sort, and which of that sort.
type thing struct{ sort, number int }

// declaration is what a call leads to: an expression, and the lets for which it may ask.
type declaration struct {
	lets  []*node
	value *node
}

// builder makes the nodes of a program without faults, so that no name is looked for when they are evaluated. Nested calls may go along all that the hybrid leads to: it is at most MaxFlat.
type builder struct {
	p      api.Program
	called map[string]*declaration
}

// declared is the declaration of a name, made once.
func (b *builder) declared(name string) *declaration {
	d, ok := b.called[name]
	if !ok {
		s := b.site(names.Decl(b.p, name))
		d = &declaration{s.lets(), s.node(s.decl.E)}
		b.called[name] = d
	}
	return d
}

// site is a declaration where nodes are made: one number may be of several declarations, and its names are other things in each.
type site struct {
	*builder
	number int
	decl   api.Decl
	things map[string]thing
	nodes  map[int]*node
}

func (b *builder) site(number int) *site {
	s := &site{b, number, b.p.Decls[number], map[string]thing{}, map[int]*node{}}
	count := map[int]int{}
	for _, v := range names.Vars(b.p, number) {
		s.things[v.Name] = thing{v.Sort, count[v.Sort]}
		count[v.Sort]++
	}
	return s
}

// own are the nodes of all the declaration's expressions, by their numbers.
func (s *site) own() map[int]*node {
	for _, e := range names.Roots(s.p, s.number) {
		s.node(e)
	}
	for _, it := range s.decl.Items {
		switch it.Kind {
		case api.ItDer:
			s.node(it.F).constant = true
		case api.ItMem:
			s.node(it.E).constant = true
		}
	}
	return s.nodes
}

// lets are what the declaration's lets are, in order.
func (s *site) lets() []*node {
	var l []*node
	for _, it := range s.decl.Items {
		if it.Kind == api.ItLet {
			l = append(l, s.node(it.E))
		}
	}
	return l
}

func (s *site) node(e int) *node {
	if n, ok := s.nodes[e]; ok {
		return n
	}
	x := s.p.Exprs[e]
	n := &node{kind: x.Kind, v: x.V}
	for _, part := range ast.Parts(x) {
		n.parts = append(n.parts, s.node(part))
	}
	switch x.Kind {
	case api.ExName:
		n.name = s.things[x.Name]
	case api.ExIs:
		n.name, n.v = s.asked(x.Name, x.State)
	case api.ExCall:
		n.called = s.declared(x.Name)
	}
	s.nodes[e] = n
	return n
}

// asked is a mode, and which of its states one is.
func (s *site) asked(name, state string) (thing, int64) {
	mode, number := 0, 0
search:
	for _, it := range s.decl.Items {
		switch {
		case it.Kind != api.ItMode:
		case it.Name != name:
			mode++
		default:
			number = slices.Index(it.States, state)
			break search
		}
	}
	return thing{api.VarMode, mode}, int64(number)
}
