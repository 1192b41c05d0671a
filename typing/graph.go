package typing

import (
	"iter"

	"amortcost/api"
)

// graph contains types under inference. Its nodes form classes of equal types.
type graph struct {
	nodes []node
}

type node struct {
	links
	shape // of the class, if the node stands for it
}

// links lead from the nodes of a class to the one that stands for it, which is its own parent.
type links struct {
	parent, rank int
}

// shape is what is known of a class: kind and num as in api.Type, and the nodes of the arguments.
type shape struct {
	kind, num int
	args      []int
	pending
}

// pending are arguments without nodes of their own yet: types, with nodes for their variables. They get nodes when they are looked at, because declared types may be far larger than all that a program does with them.
type pending struct {
	types []api.Type
	vars  []int
}

// unknown is the kind of a class of which nothing is known.
const unknown = 0

func (g *graph) add(s shape) int {
	n := len(g.nodes)
	g.nodes = append(g.nodes, node{links{parent: n}, s})
	return n
}

func (g *graph) fresh() int {
	return g.add(shape{})
}

func (g *graph) freshList(count int) []int {
	list := make([]int, count)
	for i := range list {
		list[i] = g.fresh()
	}
	return list
}

func (g *graph) known(kind int, args ...int) int {
	return g.add(shape{kind: kind, args: args})
}

// instance returns a node for a type with nodes in the place of its variables.
func (g *graph) instance(t *api.Type, vars []int) int {
	if t.Kind == api.TVar {
		return vars[t.Num]
	}
	return g.add(shape{kind: t.Kind, num: t.Num, pending: pending{t.Args, vars}})
}

// find returns the node that stands for the class of a node.
func (g *graph) find(n int) int {
	for g.nodes[n].parent != n {
		g.nodes[n].parent = g.nodes[g.nodes[n].parent].parent
		n = g.nodes[n].parent
	}
	return n
}

// args returns the arguments of the class that a node stands for.
func (g *graph) args(n int) []int {
	s := g.nodes[n].shape
	for i := range s.types {
		s.args = append(s.args, g.instance(&s.types[i], s.vars))
	}
	s.pending = pending{}
	g.nodes[n].shape = s
	return s.args
}

// unify makes two types equal, and reports whether they can be, apart from types that contain themselves.
func (g *graph) unify(m, n int) bool {
	m, n = g.find(m), g.find(n)
	if m == n {
		return true
	}
	left, right := g.args(m), g.args(n)
	first, second := g.nodes[m].shape, g.nodes[n].shape
	if first.kind == unknown {
		g.join(m, n, second)
		return true
	}
	if second.kind != unknown && (first.kind != second.kind || first.num != second.num || len(left) != len(right)) {
		return false
	}
	g.join(m, n, first)
	if second.kind == unknown {
		return true
	}
	for i := range left {
		if !g.unify(left[i], right[i]) {
			return false
		}
	}
	return true
}

// join makes one class of two, which are given by the nodes that stand for them.
func (g *graph) join(m, n int, s shape) {
	if g.nodes[m].rank < g.nodes[n].rank {
		m, n = n, m
	}
	if g.nodes[m].rank == g.nodes[n].rank {
		g.nodes[m].rank++
	}
	g.nodes[n].parent = m
	g.nodes[m].shape = s
}

// isFinite reports whether no type contains itself.
func (g *graph) isFinite() bool {
	const begun, done = 1, 2
	states := make([]int8, len(g.nodes))
	var visit func(n int) bool
	visit = func(n int) bool {
		n = g.find(n)
		if states[n] != 0 {
			return states[n] == done
		}
		states[n] = begun
		for inner := range g.inner(n) {
			if !visit(inner) {
				return false
			}
		}
		states[n] = done
		return true
	}
	for n := range g.nodes {
		if !visit(n) {
			return false
		}
	}
	return true
}

// inner leads from the class that a node stands for to its arguments, or to what they will contain once they have nodes.
func (g *graph) inner(n int) iter.Seq[int] {
	return func(yield func(int) bool) {
		s := g.nodes[n].shape
		for _, arg := range s.args {
			if !yield(arg) {
				return
			}
		}
		for i := range s.types {
			for v := range variables(&s.types[i]) {
				if !yield(s.vars[v.Num]) {
					return
				}
			}
		}
	}
}

// read returns the types of nodes, with the node of an unknown type as the number of a variable, and reports whether none has more than MaxType nodes.
func (g *graph) read(nodes []int) ([]api.Type, bool) {
	types := make([]api.Type, len(nodes))
	for i, n := range nodes {
		left := api.MaxType
		types[i] = g.readSome(n, &left)
		if left < 0 {
			return nil, false
		}
	}
	return types, true
}

// readSome reads no further when there are no nodes left.
func (g *graph) readSome(n int, left *int) api.Type {
	*left--
	n = g.find(n)
	if *left < 0 || g.nodes[n].kind == unknown {
		return api.Type{Kind: api.TVar, Num: n}
	}
	t := api.Type{Kind: g.nodes[n].kind, Num: g.nodes[n].num}
	for _, arg := range g.args(n) {
		t.Args = append(t.Args, g.readSome(arg, left))
	}
	return t
}
