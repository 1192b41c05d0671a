package syntax

import (
	"strconv"
	"strings"

	"amortcost/api"
)

// The functions of this file rely on Valid.

func progText(p api.Prog) string {
	var text strings.Builder
	for _, data := range p.Data {
		text.WriteString(dataText(data))
		text.WriteByte('\n')
	}
	for _, fun := range p.Funs {
		text.WriteString("fun " + fun.Name + namesText(fun.Params) + " = " + exprText(fun.Body, 0) + ";\n")
	}
	return text.String()
}

func dataText(data api.DataExpr) string {
	cons := make([]string, len(data.Cons))
	for i, con := range data.Cons {
		cons[i] = applied(con.Name, typeTexts(con.Args))
	}
	return "data " + applied(data.Name, data.Vars) + " = " + strings.Join(cons, " | ") + ";"
}

func typeText(t api.TypeExpr) string {
	args := typeTexts(t.Args)
	switch t.Kind {
	case api.TInt:
		return "int"
	case api.TBool:
		return "bool"
	case api.TUnit:
		return "unit"
	case api.TTuple:
		return listed(args)
	case api.TArray:
		return "array" + listed(args)
	case api.TRef:
		return "ref" + listed(args)
	case api.TFun:
		last := len(args) - 1
		return "fn" + listed(args[:last]) + " -> " + args[last]
	}
	return applied(t.Name, args)
}

func typeTexts(types []api.TypeExpr) []string {
	texts := make([]string, len(types))
	for i, each := range types {
		texts[i] = typeText(each)
	}
	return texts
}

// listed writes items in parentheses, which stand there also if there are no items.
func listed(items []string) string {
	return "(" + strings.Join(items, ", ") + ")"
}

// applied writes a name with its items, which have parentheses only if there are items.
func applied(name string, items []string) string {
	if len(items) == 0 {
		return name
	}
	return name + listed(items)
}

func bindText(name string) string {
	if name == "" {
		return "_"
	}
	return name
}

func namesText(names []string) string {
	return listed(bindTexts(names))
}

func bindTexts(names []string) []string {
	texts := make([]string, len(names))
	for i, name := range names {
		texts[i] = bindText(name)
	}
	return texts
}

// exprText returns the text of an expression at a place that demands a level.
func exprText(e api.Expr, place int) string {
	text := bareText(e)
	if level(e) < place {
		return "(" + text + ")"
	}
	return text
}

func exprTexts(exprs []api.Expr) []string {
	texts := make([]string, len(exprs))
	for i, each := range exprs {
		texts[i] = exprText(each, 0)
	}
	return texts
}

// level tells how tightly the parts of an expression hold together.
func level(e api.Expr) int {
	switch {
	case e.Op == api.ELet, e.Op == api.EUntuple, e.Op == api.EIf, e.Op == api.EMatch, e.Op == api.EFn, e.Op == api.ETry:
		return 0
	case e.Op == api.EBin && e.Num >= api.OpLt:
		return 1
	case e.Op == api.EBin && e.Num <= api.OpSub:
		return 2
	case e.Op == api.EBin:
		return 3
	case e.Op == api.EApp:
		return 4
	}
	return 5
}

// operandPlaces returns the levels that an operator demands of its operands.
func operandPlaces(op int64) (left, right int) {
	switch {
	case op >= api.OpLt:
		return 2, 2
	case op <= api.OpSub:
		return 2, 3
	}
	return 3, 4
}

func bareText(e api.Expr) string {
	switch e.Op {
	case api.EBool:
		return strconv.FormatBool(e.Num == 1)
	case api.EInt:
		return strconv.FormatInt(e.Num, 10)
	case api.EVar:
		return e.Name
	case api.ECons:
		return applied(e.Name, exprTexts(e.Kids))
	case api.ELet:
		return letText(bindText(e.Name), e.Kids)
	case api.EUntuple:
		return letText(namesText(e.Names), e.Kids)
	case api.EIf:
		return "if " + exprText(e.Kids[0], 0) + " then " + exprText(e.Kids[1], 0) + " else " + exprText(e.Kids[2], 0)
	case api.EMatch:
		return matchText(e)
	case api.EFn:
		return "fn" + namesText(e.Names) + " -> " + exprText(e.Kids[0], 0)
	case api.EApp:
		return functionText(e.Kids[0]) + listed(exprTexts(e.Kids[1:]))
	case api.EBin:
		left, right := operandPlaces(e.Num)
		return exprText(e.Kids[0], left) + " " + operators[e.Num-api.OpAdd] + " " + exprText(e.Kids[1], right)
	case api.EPrim:
		return primitives[e.Num-api.PNew].word + listed(exprTexts(e.Kids))
	case api.ETick:
		return "tick(" + strconv.FormatInt(e.Num, 10) + ")"
	case api.ERaise:
		return "raise" + listed(exprTexts(e.Kids))
	case api.ETry:
		return "try " + exprText(e.Kids[0], 0) + " catch " + bindText(e.Name) + " -> " + exprText(e.Kids[1], 0) + " end"
	}
	// A unit is written as a tuple of no components.
	return listed(exprTexts(e.Kids))
}

func letText(names string, kids []api.Expr) string {
	return "let " + names + " = " + exprText(kids[0], 0) + " in " + exprText(kids[1], 0)
}

func matchText(e api.Expr) string {
	alts := make([]string, len(e.Alts))
	for i, alt := range e.Alts {
		alts[i] = applied(alt.Con, bindTexts(alt.Vars)) + " -> " + exprText(alt.Body, 0)
	}
	return "match " + exprText(e.Kids[0], 0) + " with " + strings.Join(alts, " | ") + " end"
}

// functionText sets a constructor without arguments apart from the parenthesis that follows, which would belong to it.
func functionText(e api.Expr) string {
	if e.Op == api.ECons && len(e.Kids) == 0 {
		return "(" + e.Name + ")"
	}
	return exprText(e, 4)
}
