package special

import (
	"amortcost/api"
	"amortcost/scope"
	"amortcost/typing"
)

// typed is a program with its data types and with what typing says of its functions.
type typed struct {
	funs []api.FunExpr
	data []api.Data
	api.Typing
}

// infer returns the error of typing, if there is one.
func infer(p api.Prog) (typed, api.Diag) {
	inferred, diag := typing.Infer(p)
	if diag.Code != api.OK {
		return typed{}, diag
	}
	data, _ := scope.Data(p)
	return typed{p.Funs, data, inferred}, api.Diag{}
}

// ground is what typing says of a function, with types in the place of its variables.
type ground struct {
	params []api.Type
	result api.Type
	notes  []api.Note
}

// instantiate reports whether there is such an instance in a program without errors.
func instantiate(p api.Prog, x api.Instance) (ground, bool) {
	t, diag := infer(p)
	if diag.Code != api.OK {
		return ground{}, false
	}
	return t.instance(x)
}

// instance reports whether there is such an instance, and whether its types are not too large.
func (t *typed) instance(x api.Instance) (ground, bool) {
	if !t.fits(x) {
		return ground{}, false
	}
	s := substitution{args: x.Args}
	scheme := &t.Schemes[x.Fun]
	made := ground{params: s.all(scheme.Params), result: s.one(scheme.Result)}
	for _, note := range t.Notes[x.Fun] {
		made.notes = append(made.notes, api.Note{Type: s.one(note.Type), Args: s.all(note.Args)})
	}
	if s.tooLarge {
		return ground{}, false
	}
	return made, true
}

// fits reports whether an instance is a function with a valid ground type for each of its variables.
func (t *typed) fits(x api.Instance) bool {
	if x.Fun < 0 || x.Fun >= len(t.funs) || len(x.Args) != t.Schemes[x.Fun].Vars {
		return false
	}
	for _, arg := range x.Args {
		if !typing.Valid(t.data, arg, 0) {
			return false
		}
	}
	return true
}

// substitution puts args in the place of variables. It makes no more types after one that was too large.
type substitution struct {
	args     []api.Type
	tooLarge bool
}

func (s *substitution) one(t api.Type) api.Type {
	if s.tooLarge {
		return api.Type{}
	}
	made := typing.Subst(t, s.args)
	s.tooLarge = typing.Size(made) > api.MaxType
	return made
}

func (s *substitution) all(types []api.Type) []api.Type {
	made := make([]api.Type, len(types))
	for i := range types {
		made[i] = s.one(types[i])
	}
	return made
}
