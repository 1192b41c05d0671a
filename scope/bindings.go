package scope

import (
	"iter"
	"slices"

	"amortcost/api"
)

// bindings is a list of scopes, the innermost one first; nil is the end of the list.
type bindings struct {
	names []string
	outer *bindings
}

func (b *bindings) has(name string) bool {
	for ; b != nil; b = b.outer {
		if slices.Contains(b.names, name) {
			return true
		}
	}
	return false
}

// expressions visits the body of a function in preorder, each expression with the names that are bound there.
func expressions(fun *api.FunExpr) iter.Seq2[*api.Expr, *bindings] {
	return func(yield func(*api.Expr, *bindings) bool) {
		visit(&fun.Body, &bindings{names: fun.Params}, yield)
	}
}

// visit returns false if yield did, and does nothing from then on.
func visit(e *api.Expr, bound *bindings, yield func(*api.Expr, *bindings) bool) bool {
	if !yield(e, bound) {
		return false
	}
	for i := range e.Kids {
		if !visit(&e.Kids[i], boundInKid(e, i, bound), yield) {
			return false
		}
	}
	for i := range e.Alts {
		alt := &e.Alts[i]
		if !visit(&alt.Body, &bindings{alt.Vars, bound}, yield) {
			return false
		}
	}
	return true
}

// boundInKid returns the names that are bound in a kid of an expression, at which those of bound are.
func boundInKid(e *api.Expr, kid int, bound *bindings) *bindings {
	switch e.Op {
	case api.EFn:
		return &bindings{e.Names, bound}
	case api.EUntuple:
		if kid == 1 {
			return &bindings{e.Names, bound}
		}
	case api.ELet, api.ETry:
		if kid == 1 {
			return &bindings{[]string{e.Name}, bound}
		}
	}
	return bound
}

// functionNamed returns the function that an expression names, or -1 if it names none.
func functionNamed(e *api.Expr, bound *bindings, funs []api.FunExpr) int {
	if e.Op != api.EVar || bound.has(e.Name) {
		return -1
	}
	return findFunction(funs, e.Name)
}

// findFunction returns the first function with a name, or -1.
func findFunction(funs []api.FunExpr, name string) int {
	return slices.IndexFunc(funs, func(each api.FunExpr) bool { return each.Name == name })
}
