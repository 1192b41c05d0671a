package typing

import (
	"slices"

	"amortcost/api"
)

// signature is a node for the type of a function, and nodes for the variables of its scheme.
type signature struct {
	node int
	vars []int
}

// member is a function of the group, with a mark for each expression in preorder. Its variables are known when it has been described.
type member struct {
	signature
	marks []mark
	types []api.Type // of the parameters and the result
	notes []api.Note
}

// mark is a node for the type of an expression, and the signature of the function that the expression names.
type mark struct {
	node  int
	named *signature
}

// inferGroup adds the schemes and notes of a group to those of the earlier groups.
func inferGroup(group []int, funs []api.FunExpr, data []api.Data, typing *api.Typing) api.Diag {
	w := walker{data: data, funs: funs, schemes: typing.Schemes, members: make([]*member, len(funs))}
	if !w.typeBodies(group) {
		return api.Diag{Code: api.ErrType, Fun: group[0]}
	}
	for _, f := range group {
		if !w.describe(w.members[f]) {
			return api.Diag{Code: api.ErrLimit, Fun: f}
		}
	}
	for _, f := range group {
		typing.Schemes[f], typing.Notes[f] = w.generalize(w.members[f])
	}
	return api.Diag{}
}

// describe reads the types of a member, and reports whether none of them is too large. The Args of its notes are left out, as these are parts of the types.
func (w *walker) describe(m *member) bool {
	types, small := w.read(w.args(w.find(m.node)))
	if !small {
		return false
	}
	m.types = types
	for i := range types {
		for v := range variables(&types[i]) {
			if !slices.Contains(m.vars, v.Num) {
				m.vars = append(m.vars, v.Num)
			}
		}
	}
	for _, each := range m.marks {
		noted, small := w.read([]int{each.node})
		if !small {
			return false
		}
		m.notes = append(m.notes, api.Note{Type: noted[0]})
	}
	return true
}

// generalize returns the scheme and the notes of a member in terms of its variables, when all members have been described.
func (w *walker) generalize(m *member) (api.Scheme, []api.Note) {
	last := len(m.types) - 1
	number(m.types, m.vars)
	for i := range m.notes {
		note := &m.notes[i]
		if named := m.marks[i].named; named != nil {
			note.Args, _ = w.read(named.vars)
		}
		number(note.Args, m.vars)
		numberOne(&note.Type, m.vars)
	}
	return api.Scheme{Vars: len(m.vars), Params: m.types[:last:last], Result: m.types[last]}, m.notes
}

func number(types []api.Type, vars []int) {
	for i := range types {
		numberOne(&types[i], vars)
	}
}

// numberOne replaces each variable by its number among those of a scheme, and by unit if it is none of these.
func numberOne(t *api.Type, vars []int) {
	for v := range variables(t) {
		if i := slices.Index(vars, v.Num); i >= 0 {
			v.Num = i
		} else {
			*v = api.Type{Kind: api.TUnit}
		}
	}
}
