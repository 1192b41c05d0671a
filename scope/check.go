package scope

import (
	"slices"

	"amortcost/api"
)

// checker knows the data types of a program without errors in its data declarations, and the functions.
type checker struct {
	data []api.Data
	funs []api.FunExpr
}

// checkFun returns the first error of a function and its node, or OK.
func (c *checker) checkFun(f int) (api.Errno, int) {
	fun := &c.funs[f]
	if findFunction(c.funs, fun.Name) < f || repeats(fun.Params) {
		return api.ErrDuplicate, 0
	}
	node := 0
	for e, bound := range expressions(fun) {
		if refusal := c.checkExpr(e, bound); refusal != api.OK {
			return refusal, node
		}
		node++
	}
	return api.OK, 0
}

// checkExpr looks at an expression without those below it.
func (c *checker) checkExpr(e *api.Expr, bound *bindings) api.Errno {
	switch e.Op {
	case api.EVar:
		if !bound.has(e.Name) && findFunction(c.funs, e.Name) < 0 {
			return api.ErrName
		}
	case api.ECons:
		return c.checkConstructor(e.Name, len(e.Kids))
	case api.EUntuple, api.EFn:
		if repeats(e.Names) {
			return api.ErrDuplicate
		}
	case api.EMatch:
		return c.checkAlts(e.Alts)
	case api.EApp:
		f := functionNamed(&e.Kids[0], bound, c.funs)
		if f >= 0 && len(e.Kids)-1 != len(c.funs[f].Params) {
			return api.ErrArity
		}
	}
	return api.OK
}

func (c *checker) checkConstructor(name string, args int) api.Errno {
	d, con, known := Constructor(c.data, name)
	if !known {
		return api.ErrName
	}
	if len(c.data[d].Cons[con].Args) != args {
		return api.ErrArity
	}
	return api.OK
}

func (c *checker) checkAlts(alts []api.Alt) api.Errno {
	for i := range alts {
		alt := &alts[i]
		if refusal := c.checkConstructor(alt.Con, len(alt.Vars)); refusal != api.OK {
			return refusal
		}
		if repeats(alt.Vars) {
			return api.ErrDuplicate
		}
	}
	if !c.areComplete(alts) {
		return api.ErrForm
	}
	return api.OK
}

// areComplete reports whether alternatives with known constructors have each constructor of one data type once. As no two constructors have one name, it suffices that the numbers agree and none is missing.
func (c *checker) areComplete(alts []api.Alt) bool {
	d, _, _ := Constructor(c.data, alts[0].Con)
	cons := c.data[d].Cons
	if len(alts) != len(cons) {
		return false
	}
	for i := range cons {
		if !slices.ContainsFunc(alts, func(alt api.Alt) bool { return alt.Con == cons[i].Name }) {
			return false
		}
	}
	return true
}
