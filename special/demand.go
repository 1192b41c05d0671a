package special

import (
	"slices"
	"strings"

	"amortcost/api"
	"amortcost/typing"
)

// demand is the list of the instances that have been found so far, which grows while it is visited.
type demand struct {
	typed
	list   []api.Instance
	listed map[key]bool
}

// key stands for an instance. Different valid types have different texts.
type key struct {
	fun  int
	args string
}

// newDemand begins with the functions without variables.
func newDemand(t typed) *demand {
	d := &demand{typed: t, listed: make(map[key]bool)}
	for f := range t.Schemes {
		if t.Schemes[f].Vars == 0 {
			d.add(api.Instance{Fun: f})
		}
	}
	return d
}

// visit adds the instances that an instance names. It returns the function of the instance that exceeds a limit, and false, if there is one.
func (d *demand) visit(x api.Instance) (refused int, ok bool) {
	made, ok := d.instance(x)
	if !ok {
		return x.Fun, false
	}
	for node, name := range names(&d.funs[x.Fun].Body) {
		args := made.notes[node].Args
		// Expressions without Args name no function, or one without variables, which is in the list from the beginning.
		if len(args) == 0 {
			continue
		}
		named := slices.IndexFunc(d.funs, func(fun api.FunExpr) bool { return fun.Name == name })
		if !d.add(api.Instance{Fun: named, Args: args}) {
			return named, false
		}
	}
	return 0, true
}

// add reports whether the instance is in the list, and puts it there if there is room.
func (d *demand) add(x api.Instance) bool {
	k := key{x.Fun, d.text(x.Args)}
	if d.listed[k] {
		return true
	}
	if len(d.list) == api.MaxCodes {
		return false
	}
	d.list, d.listed[k] = append(d.list, x), true
	return true
}

func (d *demand) text(types []api.Type) string {
	var texts []string
	for _, each := range types {
		texts = append(texts, typing.Format(d.data, each))
	}
	return strings.Join(texts, ", ")
}

// names returns the names of an expression and of all below it, in preorder.
func names(e *api.Expr) []string {
	list := []string{e.Name}
	for i := range e.Kids {
		list = append(list, names(&e.Kids[i])...)
	}
	for i := range e.Alts {
		list = append(list, names(&e.Alts[i].Body)...)
	}
	return list
}
