package syntax

import (
	"slices"

	"amortcost/api"
)

func equalData(a, b api.DataExpr) bool {
	return a.Name == b.Name && slices.Equal(a.Vars, b.Vars) && slices.EqualFunc(a.Cons, b.Cons, equalCons)
}

func equalCons(a, b api.ConExpr) bool {
	return a.Name == b.Name && slices.EqualFunc(a.Args, b.Args, equalTypes)
}

func equalTypes(a, b api.TypeExpr) bool {
	return a.Kind == b.Kind && a.Name == b.Name && slices.EqualFunc(a.Args, b.Args, equalTypes)
}

func equalFuns(a, b api.FunExpr) bool {
	return a.Name == b.Name && slices.Equal(a.Params, b.Params) && equalExprs(a.Body, b.Body)
}

func equalExprs(a, b api.Expr) bool {
	return a.Op == b.Op && a.Name == b.Name && a.Num == b.Num && slices.Equal(a.Names, b.Names) &&
		slices.EqualFunc(a.Kids, b.Kids, equalExprs) && slices.EqualFunc(a.Alts, b.Alts, equalAlts)
}

func equalAlts(a, b api.Alt) bool {
	return a.Con == b.Con && slices.Equal(a.Vars, b.Vars) && equalExprs(a.Body, b.Body)
}
