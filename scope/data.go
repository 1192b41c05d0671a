package scope

import (
	"slices"

	"amortcost/api"
)

// resolver collects data types. The last one is being declared, and its type parameters have the names vars.
type resolver struct {
	data []api.Data
	vars []string
}

func (r *resolver) declare(decl *api.DataExpr) api.Errno {
	if r.find(decl.Name) >= 0 || repeats(decl.Vars) {
		return api.ErrDuplicate
	}
	r.vars = decl.Vars
	r.data = append(r.data, api.Data{Name: decl.Name, Vars: len(decl.Vars)})
	for i := range decl.Cons {
		if refusal := r.addConstructor(&decl.Cons[i]); refusal != api.OK {
			return refusal
		}
	}
	return api.OK
}

func (r *resolver) addConstructor(con *api.ConExpr) api.Errno {
	if _, _, known := Constructor(r.data, con.Name); known {
		return api.ErrDuplicate
	}
	made := api.Con{Name: con.Name}
	for i := range con.Args {
		arg, refusal := r.resolve(&con.Args[i], true)
		if refusal != api.OK {
			return refusal
		}
		made.Args = append(made.Args, arg)
	}
	last := &r.data[len(r.data)-1]
	last.Cons = append(last.Cons, made)
	return api.OK
}

// resolve visits a type in preorder. It is told whether the type is a whole argument of a constructor.
func (r *resolver) resolve(t *api.TypeExpr, whole bool) (api.Type, api.Errno) {
	num, refusal := r.meaning(t, whole)
	if refusal != api.OK {
		return api.Type{}, refusal
	}
	made := api.Type{Kind: t.Kind, Num: num}
	for i := range t.Args {
		arg, refusal := r.resolve(&t.Args[i], false)
		if refusal != api.OK {
			return api.Type{}, refusal
		}
		made.Args = append(made.Args, arg)
	}
	return made, api.OK
}

// meaning returns the number that a node has in the place of its name, 0 if it has no name.
func (r *resolver) meaning(t *api.TypeExpr, whole bool) (int, api.Errno) {
	switch t.Kind {
	case api.TVar:
		if v := slices.Index(r.vars, t.Name); v >= 0 {
			return v, api.OK
		}
		return 0, api.ErrName
	case api.TData:
		return r.dataMeaning(t, whole)
	}
	return 0, api.OK
}

func (r *resolver) dataMeaning(t *api.TypeExpr, whole bool) (int, api.Errno) {
	d := r.find(t.Name)
	if d < 0 {
		return 0, api.ErrName
	}
	if len(t.Args) != r.data[d].Vars {
		return 0, api.ErrArity
	}
	if isLast := d == len(r.data)-1; isLast && !(whole && r.areVars(t.Args)) {
		return 0, api.ErrForm
	}
	return d, api.OK
}

// find returns the data type with a name, or -1.
func (r *resolver) find(name string) int {
	return slices.IndexFunc(r.data, func(each api.Data) bool { return each.Name == name })
}

// areVars reports whether types are the type parameters in order. Only type variables have such names.
func (r *resolver) areVars(types []api.TypeExpr) bool {
	return slices.EqualFunc(types, r.vars, func(t api.TypeExpr, name string) bool { return t.Name == name })
}

// repeats reports whether two of the names are equal. The name "" binds nothing.
func repeats(names []string) bool {
	for i, name := range names {
		if name != "" && slices.Contains(names[:i], name) {
			return true
		}
	}
	return false
}
