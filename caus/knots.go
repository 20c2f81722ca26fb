package caus

import "iter"

// Where a node stands that isn't among the open ones (those are counted from 1 on).
const (
	unmet  = 0
	closed = -1
)

// seeker goes along a graph to find its knots. Open are the nodes of which it isn't known yet whether they hang together; bounds are the places, among these, of those behind which nothing is known to lead back ahead of them.
type seeker struct {
	place    []int // of each node
	followed []int // of each node: how many of those that it asks for have been gone to
	path     []int // the nodes that are being gone along
	open     []int
	bounds   []int
}

// knots hands on the nodes that hang on themselves, those together that hang on each other. A list holds until the next one is asked for.
func (g graph) knots() iter.Seq[[]int] {
	return func(yield func([]int) bool) {
		s := seeker{place: make([]int, len(g.asks)), followed: make([]int, len(g.asks))}
		for first := range g.asks {
			if s.place[first] == unmet {
				s.enter(first)
			}
		search:
			for len(s.path) > 0 {
				node := s.path[len(s.path)-1]
				for _, next := range g.asks[node][s.followed[node]:] {
					s.followed[node]++
					switch s.place[next] {
					case unmet:
						s.enter(next)
						continue search
					case closed:
					default:
						s.join(s.place[next])
					}
				}
				if knot := s.leave(); len(knot) > 1 && !yield(knot) {
					return
				}
			}
		}
	}
}

// enter goes to a node that is met for the first time.
func (s *seeker) enter(node int) {
	s.path = append(s.path, node)
	s.open = append(s.open, node)
	s.place[node] = len(s.open)
	s.bounds = append(s.bounds, len(s.open))
}

// join knots together all open nodes from a place on: the last one leads back to it.
func (s *seeker) join(place int) {
	for s.bounds[len(s.bounds)-1] > place {
		s.bounds = s.bounds[:len(s.bounds)-1]
	}
}

// leave goes back from the last node of the path. If nothing behind it leads back ahead of it, it and the open ones behind it hang together, and are closed.
func (s *seeker) leave() []int {
	node := s.path[len(s.path)-1]
	s.path = s.path[:len(s.path)-1]
	if s.bounds[len(s.bounds)-1] != s.place[node] {
		return nil
	}
	s.bounds = s.bounds[:len(s.bounds)-1]
	knot := s.open[s.place[node]-1:]
	s.open = s.open[:s.place[node]-1]
	for _, n := range knot {
		s.place[n] = closed
	}
	return knot
}
