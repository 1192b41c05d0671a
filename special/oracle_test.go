package special_test

import (
	"reflect"
	"slices"
	"strings"

	"amortcost/api"
	"amortcost/scope"
	"amortcost/typing"
)

// This file reads the chapter a second time.

// size returns the number of nodes of a type.
func size(t api.Type) int {
	count := 1
	for _, arg := range t.Args {
		count += size(arg)
	}
	return count
}

// fill returns a type with args in the place of all its variables.
func fill(t api.Type, args []api.Type) api.Type {
	if t.Kind == api.TVar {
		return args[t.Num]
	}
	made := api.Type{Kind: t.Kind, Num: t.Num}
	for _, arg := range t.Args {
		made.Args = append(made.Args, fill(arg, args))
	}
	return made
}

// defined is what 7.1 says of an instance.
type defined struct {
	Notes  []api.Note
	Params []api.Type
	Result api.Type
	OK     bool
}

func definedInstance(p api.Prog, x api.Instance) defined {
	inferred, diag := typing.Infer(p)
	data, _ := scope.Data(p)
	if diag.Code != api.OK || !slices.Contains(indices(p.Funs), x.Fun) || inferred.Schemes[x.Fun].Vars != len(x.Args) {
		return defined{}
	}
	for _, arg := range x.Args {
		if !typing.Valid(data, arg, 0) {
			return defined{}
		}
	}
	scheme, notes := inferred.Schemes[x.Fun], inferred.Notes[x.Fun]
	types := append(slices.Clone(scheme.Params), scheme.Result)
	for _, note := range notes {
		types = append(append(types, note.Type), note.Args...)
	}
	for i := range types {
		types[i] = fill(types[i], x.Args)
		if size(types[i]) > 200 {
			return defined{}
		}
	}
	take := func(count int) []api.Type {
		taken := types[:count]
		types = types[count:]
		return taken
	}
	made := defined{Params: take(len(scheme.Params)), Result: take(1)[0], OK: true}
	for _, note := range notes {
		made.Notes = append(made.Notes, api.Note{Type: take(1)[0], Args: take(len(note.Args))})
	}
	return made
}

func indices[T any](list []T) []int {
	var all []int
	for i := range list {
		all = append(all, i)
	}
	return all
}

// named returns for each expression in preorder the function that it names, or -1.
func named(p api.Prog, e api.Expr, bound []string) []int {
	list := []int{-1}
	if e.Op == api.EVar && !slices.Contains(bound, e.Name) {
		list[0] = slices.IndexFunc(p.Funs, func(fun api.FunExpr) bool { return fun.Name == e.Name })
	}
	for i, kid := range e.Kids {
		inner := slices.Clone(bound)
		switch {
		case e.Op == api.EFn, e.Op == api.EUntuple && i == 1:
			inner = append(inner, e.Names...)
		case (e.Op == api.ELet || e.Op == api.ETry) && i == 1:
			inner = append(inner, e.Name)
		}
		list = append(list, named(p, kid, inner)...)
	}
	for _, alt := range e.Alts {
		list = append(list, named(p, alt.Body, append(slices.Clone(bound), alt.Vars...))...)
	}
	return list
}

// naming is an instance that an expression names, with the type of the expression.
type naming struct {
	instance api.Instance
	as       api.Type
}

// namings returns what the body of an instance with these notes names, in preorder.
func namings(p api.Prog, x api.Instance, notes []api.Note) []naming {
	var list []naming
	fun := p.Funs[x.Fun]
	for node, f := range named(p, fun.Body, fun.Params) {
		if f >= 0 {
			list = append(list, naming{api.Instance{Fun: f, Args: notes[node].Args}, notes[node].Type})
		}
	}
	return list
}

// position is what 7.3 says of Find.
func position(list []api.Instance, x api.Instance) int {
	for i, each := range list {
		if same(each, x) {
			return i
		}
	}
	return -1
}

// definedDemand is what 7.2 says of a program.
func definedDemand(p api.Prog) ([]api.Instance, api.Diag) {
	inferred, diag := typing.Infer(p)
	if diag.Code != api.OK {
		return nil, diag
	}
	var list []api.Instance
	for f, scheme := range inferred.Schemes {
		if scheme.Vars == 0 {
			list = append(list, api.Instance{Fun: f})
		}
	}
	for turn := 0; turn < len(list); turn++ {
		x := list[turn]
		made := definedInstance(p, x)
		if !made.OK {
			return nil, api.Diag{Code: api.ErrLimit, Fun: x.Fun}
		}
		for _, each := range namings(p, x, made.Notes) {
			if position(list, each.instance) < 0 {
				list = append(list, each.instance)
			}
			if len(list) == 65 {
				return nil, api.Diag{Code: api.ErrLimit, Fun: each.instance.Fun}
			}
		}
	}
	return list, api.Diag{}
}

// typeTexts returns the texts of types, with ", " between.
func typeTexts(p api.Prog, types []api.Type) string {
	data, _ := scope.Data(p)
	var texts []string
	for _, t := range types {
		texts = append(texts, typing.Format(data, t))
	}
	return strings.Join(texts, ", ")
}

// instanceTexts returns the texts of instances as in "f[int, bool] g".
func instanceTexts(p api.Prog, list []api.Instance) string {
	var texts []string
	for _, x := range list {
		text := p.Funs[x.Fun].Name
		if len(x.Args) > 0 {
			text += "[" + typeTexts(p, x.Args) + "]"
		}
		texts = append(texts, text)
	}
	return strings.Join(texts, " ")
}

// noteTexts returns the texts of notes as in "fn(int) -> int [int]; int".
func noteTexts(p api.Prog, notes []api.Note) string {
	var texts []string
	for _, note := range notes {
		text := typeTexts(p, []api.Type{note.Type})
		if len(note.Args) > 0 {
			text += " [" + typeTexts(p, note.Args) + "]"
		}
		texts = append(texts, text)
	}
	return strings.Join(texts, "; ")
}

// copyOf shares no memory with v, and leaves out the difference between nil and empty slices.
func copyOf[T any](v T) T {
	return deepCopy(reflect.ValueOf(v)).Interface().(T)
}

func deepCopy(v reflect.Value) reflect.Value {
	c := reflect.New(v.Type()).Elem()
	switch v.Kind() {
	case reflect.Struct:
		for i := range v.NumField() {
			c.Field(i).Set(deepCopy(v.Field(i)))
		}
	case reflect.Slice:
		for i := range v.Len() {
			c.Set(reflect.Append(c, deepCopy(v.Index(i))))
		}
	default:
		c.Set(v)
	}
	return c
}

func same[T any](a, b T) bool {
	return reflect.DeepEqual(copyOf(a), copyOf(b))
}

// parts returns a value and all that is within it.
func parts(v reflect.Value) []reflect.Value {
	list := []reflect.Value{v}
	switch v.Kind() {
	case reflect.Struct:
		for i := range v.NumField() {
			list = append(list, parts(v.Field(i))...)
		}
	case reflect.Slice:
		for i := range v.Len() {
			list = append(list, parts(v.Index(i))...)
		}
	}
	return list
}
