package typing

import (
	"iter"
	"math"
	"slices"

	"amortcost/api"
)

// Size returns the number of nodes of a type.
func Size(t api.Type) int {
	count := 0
	for range preorder(&t) {
		count++
	}
	return count
}

// Equal reports whether two types are equal.
func Equal(a, b api.Type) bool {
	return a.Kind == b.Kind && a.Num == b.Num && slices.EqualFunc(a.Args, b.Args, Equal)
}

// Ground reports whether a type has no variable.
func Ground(t api.Type) bool {
	for range variables(&t) {
		return false
	}
	return true
}

// Subst returns a type with args in the place of its variables, as far as there are args.
func Subst(t api.Type, args []api.Type) api.Type {
	c := copier{args, math.MaxInt}
	return c.copy(&t)
}

// Match returns types for the variables of t by which Subst makes u of it.
func Match(t, u api.Type) ([]api.Type, bool) {
	var m matcher
	if !m.match(&t, &u) {
		return nil, false
	}
	types := make([]api.Type, len(m.found))
	for v, found := range m.found {
		types[v].Kind = api.TUnit
		if found != nil {
			types[v] = Subst(*found, nil)
		}
	}
	return types, true
}

// Fields returns the argument types of a constructor of a data type.
func Fields(data []api.Data, t api.Type, c int) ([]api.Type, bool) {
	if t.Kind != api.TData || t.Num < 0 || t.Num >= len(data) || len(t.Args) != data[t.Num].Vars {
		return nil, false
	}
	cons := data[t.Num].Cons
	if c < 0 || c >= len(cons) {
		return nil, false
	}
	fields := make([]api.Type, len(cons[c].Args))
	for i := range fields {
		made := copier{t.Args, api.MaxType}
		fields[i] = made.copy(&cons[c].Args[i])
		if made.left < 0 {
			return nil, false
		}
	}
	return fields, true
}

// preorder visits the nodes of a type.
func preorder(t *api.Type) iter.Seq[*api.Type] {
	return func(yield func(*api.Type) bool) { visit(t, yield) }
}

// visit returns false if yield did, and does nothing from then on.
func visit(t *api.Type, yield func(*api.Type) bool) bool {
	if !yield(t) {
		return false
	}
	for i := range t.Args {
		if !visit(&t.Args[i], yield) {
			return false
		}
	}
	return true
}

// variables visits the variables of a type in preorder, each as often as it occurs.
func variables(t *api.Type) iter.Seq[*api.Type] {
	return func(yield func(*api.Type) bool) {
		for node := range preorder(t) {
			if node.Kind == api.TVar && !yield(node) {
				return
			}
		}
	}
}

// copier makes copies of types with args in the place of their variables, as long as there are nodes left.
type copier struct {
	args []api.Type
	left int
}

// copy returns a part of the copy, with left below 0, if that is all it can make.
func (c *copier) copy(t *api.Type) api.Type {
	if t.Kind == api.TVar && t.Num >= 0 && t.Num < len(c.args) {
		plain := copier{nil, c.left}
		made := plain.copy(&c.args[t.Num])
		c.left = plain.left
		return made
	}
	made := api.Type{Kind: t.Kind, Num: t.Num}
	c.left--
	for i := 0; i < len(t.Args) && c.left >= 0; i++ {
		made.Args = append(made.Args, c.copy(&t.Args[i]))
	}
	return made
}

// matcher collects the types for variables, nil for those that have not been met.
type matcher struct {
	found []*api.Type
}

// mostVariable is the greatest number of a variable that Match gives a type.
const mostVariable = 100

// match compares t, which has variables, with u, in which they stand for nothing. It does not look into the Args of variables, in whose place other types are put.
func (m *matcher) match(t, u *api.Type) bool {
	if t.Kind == api.TVar {
		return m.matchVariable(t.Num, u)
	}
	if t.Kind != u.Kind || t.Num != u.Num || len(t.Args) != len(u.Args) {
		return false
	}
	for i := range t.Args {
		if !m.match(&t.Args[i], &u.Args[i]) {
			return false
		}
	}
	return true
}

func (m *matcher) matchVariable(v int, u *api.Type) bool {
	if v < 0 || v > mostVariable {
		return false
	}
	for len(m.found) <= v {
		m.found = append(m.found, nil)
	}
	if m.found[v] == nil {
		m.found[v] = u
	}
	return Equal(*m.found[v], *u)
}
