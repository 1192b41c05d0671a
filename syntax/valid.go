package syntax

import (
	"amortcost/api"
	"amortcost/token"
)

// Classes of names: absent permits only "", bound permits "" beside names.
const (
	absent = iota
	lower
	upper
	bound
)

// fits reports whether a string belongs to a class of names.
func fits(s string, class int) bool {
	switch class {
	case lower:
		return isToken(s, token.Name)
	case upper:
		return isToken(s, token.Upper)
	case bound:
		return s == "" || isToken(s, token.Name)
	}
	return s == ""
}

// isToken looks at the text of the token too, because blanks and comments around it leave no trace in the tokens.
func isToken(s string, kind int) bool {
	if len(s) > api.MaxName {
		return false
	}
	tokens, _, refusal := token.Split(s)
	return refusal == api.OK && len(tokens) == 2 && tokens[0].Kind == kind && tokens[0].Text == s
}

func allFit(names []string, class int) bool {
	for _, name := range names {
		if !fits(name, class) {
			return false
		}
	}
	return true
}

// span is a range of numbers, both ends included.
type span struct {
	least, most int64
}

func (s span) contains(n int64) bool {
	return s.least <= n && n <= s.most
}

func exactly(n int64) span {
	return span{n, n}
}

// shape is what the fields of a node of one kind may be.
type shape struct {
	name, names          int // classes
	num, nameCount, kids span
	hasAlts              bool
}

// shapeOf returns the shape that the node's kind demands, and false if there is no such kind.
func shapeOf(e *api.Expr) (shape, bool) {
	switch e.Op {
	case api.EUnit:
		return shape{}, true
	case api.EBool:
		return shape{num: span{0, 1}}, true
	case api.EInt:
		return shape{num: span{-api.MaxLiteral, api.MaxLiteral}}, true
	case api.EVar:
		return shape{name: lower}, true
	case api.ETuple:
		return shape{kids: span{2, api.MaxArgs}}, true
	case api.ECons:
		return shape{name: upper, kids: span{0, api.MaxArgs}}, true
	case api.ELet, api.ETry:
		return shape{name: bound, kids: exactly(2)}, true
	case api.EUntuple:
		return shape{names: bound, nameCount: span{2, api.MaxArgs}, kids: exactly(2)}, true
	case api.EIf:
		return shape{kids: exactly(3)}, true
	case api.EMatch:
		return shape{kids: exactly(1), hasAlts: true}, true
	case api.EFn:
		return shape{names: lower, nameCount: span{0, api.MaxArgs}, kids: exactly(1)}, true
	case api.EApp:
		return shape{kids: span{1, 1 + api.MaxArgs}}, true
	case api.EBin:
		return shape{num: span{api.OpAdd, api.OpEq}, kids: exactly(2)}, true
	case api.EPrim:
		return primitiveShape(e.Num)
	case api.ETick:
		return shape{num: span{-api.MaxCost, api.MaxCost}}, true
	case api.ERaise:
		return shape{kids: exactly(1)}, true
	}
	return shape{}, false
}

func primitiveShape(num int64) (shape, bool) {
	if num < api.PNew || num > api.PWrite {
		return shape{}, false
	}
	return shape{num: exactly(num), kids: exactly(int64(primitives[num-api.PNew].operands))}, true
}

// hasShape reports whether the fields of a node are right, apart from the nodes below it.
func hasShape(e *api.Expr) bool {
	want, known := shapeOf(e)
	return known && want.num.contains(e.Num) && want.hasAlts == (len(e.Alts) > 0) && want.kids.contains(int64(len(e.Kids))) &&
		want.nameCount.contains(int64(len(e.Names))) && fits(e.Name, want.name) && allFit(e.Names, want.names)
}

// inspection counts the nodes of all the bodies that it visits.
type inspection struct {
	nodes int
}

// accepts stops at the first excess, so that trees of any size are refused soon.
func (s *inspection) accepts(e *api.Expr, depth int) bool {
	s.nodes++
	if s.nodes > api.MaxNodes || depth > api.MaxDepth || !hasShape(e) {
		return false
	}
	for i := range e.Kids {
		if !s.accepts(&e.Kids[i], depth+1) {
			return false
		}
	}
	for i := range e.Alts {
		alt := &e.Alts[i]
		if !fits(alt.Con, upper) || len(alt.Vars) > api.MaxArgs || !allFit(alt.Vars, bound) || !s.accepts(&alt.Body, depth+1) {
			return false
		}
	}
	return true
}

func validHead(fun api.FunExpr) bool {
	return fits(fun.Name, lower) && len(fun.Params) <= api.MaxArgs && allFit(fun.Params, lower)
}

func validData(data api.DataExpr) bool {
	if !fits(data.Name, upper) || len(data.Vars) > api.MaxArgs || !allFit(data.Vars, lower) {
		return false
	}
	if len(data.Cons) == 0 || len(data.Cons) > api.MaxCons {
		return false
	}
	for _, con := range data.Cons {
		if !fits(con.Name, upper) || len(con.Args) > api.MaxArgs || !validTypes(con.Args, 1) {
			return false
		}
	}
	return true
}

func validTypes(types []api.TypeExpr, depth int) bool {
	for i := range types {
		each := &types[i]
		if depth > api.MaxDepth || !hasTypeShape(each) || !validTypes(each.Args, depth+1) {
			return false
		}
	}
	return true
}

// hasTypeShape reports whether the fields of a node are right, apart from the nodes below it.
func hasTypeShape(t *api.TypeExpr) bool {
	var name int
	var args span
	switch t.Kind {
	case api.TInt, api.TBool, api.TUnit:
	case api.TVar:
		name = lower
	case api.TData:
		name, args = upper, span{0, api.MaxArgs}
	case api.TTuple:
		args = span{2, api.MaxArgs}
	case api.TArray, api.TRef:
		args = exactly(1)
	case api.TFun:
		args = span{1, api.MaxArgs + 1}
	default:
		return false
	}
	return fits(t.Name, name) && args.contains(int64(len(t.Args)))
}
