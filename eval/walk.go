package eval

import (
	"shipwright/api"
	"shipwright/graph"
)

// names is what names denote; nil has none. It never changes, so that nodes share what is bound around them all.
type names struct {
	name string
	ls   []api.Label
	rest *names
}

// get returns what the name denotes.
func (n *names) get(name string) []api.Label {
	for ; n != nil; n = n.rest {
		if n.name == name {
			return n.ls
		}
	}
	return nil
}

// place is where a node stands: at one place, the names that are bound around it denote the same.
type place struct {
	node  *api.Query
	bound *names
}

// work is a place at which it is being worked out what the node denotes, and what its Kids do, as far as is known.
type work struct {
	place
	kids [2][]api.Label
	done int // the number of Kids that are known
}

// next returns the place of the Kid that is to be worked out next, and whether there is one.
func (w *work) next() (place, bool) {
	if w.done == min(countKids(w.node.Kind), len(w.node.Kids)) {
		return place{}, false
	}
	kid := place{&w.node.Kids[w.done], w.bound}
	if w.node.Kind == api.QLet && w.done == 1 {
		kid.bound = &names{w.node.Name, w.kids[0], w.bound}
	}
	return kid, true
}

// take takes down what the next Kid denotes.
func (w *work) take(ls []api.Label) {
	w.kids[w.done] = ls
	w.done++
}

// walk goes through the nodes of a query.
//
// Kids may be nested deeper than calls can be, and may share memory, even with what holds them: so there is no call
// for each node, none is worked out twice at one place, and one that holds itself is noticed.
type walk struct {
	g     *graph.Graph
	todo  []work                  // each within the one ahead of it
	open  map[*api.Query]struct{} // the nodes of todo
	known map[place][]api.Label
}

// valueOf returns what q denotes in g, in any order; a query that holds itself denotes nothing.
func valueOf(g *graph.Graph, q *api.Query) []api.Label {
	w := walk{g: g, open: make(map[*api.Query]struct{}), known: make(map[place][]api.Label)}
	top := place{q, nil}
	w.begin(top)
	for len(w.todo) > 0 {
		last := &w.todo[len(w.todo)-1]
		kid, isLeft := last.next()
		ls, isKnown := w.known[kid]
		switch {
		case !isLeft:
			w.end()
		case isKnown:
			last.take(ls)
		case w.isOpen(kid.node):
			return nil
		default:
			w.begin(kid)
		}
	}
	return w.known[top]
}

// isOpen reports whether the node is being worked out.
func (w *walk) isOpen(node *api.Query) bool {
	_, isOpen := w.open[node]
	return isOpen
}

// begin begins to work out what is denoted at the place.
func (w *walk) begin(p place) {
	w.open[p.node] = struct{}{}
	w.todo = append(w.todo, work{place: p})
}

// end works out what the last of todo denotes, all Kids of which are known, and hands it to the one ahead of it.
func (w *walk) end() {
	n := len(w.todo) - 1
	last := &w.todo[n]
	ls := last.denoted(w.g)
	w.known[last.place] = ls
	delete(w.open, last.node)
	w.todo = w.todo[:n]
	if n > 0 {
		w.todo[n-1].take(ls)
	}
}
