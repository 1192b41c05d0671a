package syntax

import (
	"amortcost/api"
	"amortcost/token"
)

func (p *parser) expr() api.Expr {
	switch {
	case p.accept("let"):
		return p.letExpr()
	case p.accept("if"):
		return p.ifExpr()
	case p.accept("match"):
		return p.matchExpr()
	case p.accept("fn"):
		return p.fnExpr()
	case p.accept("try"):
		return p.tryExpr()
	}
	return p.comparison()
}

// letExpr reads an expression behind its keyword, as do the methods of the other keywords.
func (p *parser) letExpr() api.Expr {
	e := api.Expr{Op: api.ELet}
	if p.peek().Text == "(" {
		e.Op = api.EUntuple
		e.Names = atLeastTwo(p, p.bind)
	} else {
		e.Name = p.bind()
	}
	p.expect("=")
	definition := p.expr()
	p.expect("in")
	e.Kids = []api.Expr{definition, p.expr()}
	return e
}

func (p *parser) ifExpr() api.Expr {
	condition := p.expr()
	p.expect("then")
	yes := p.expr()
	p.expect("else")
	return api.Expr{Op: api.EIf, Kids: []api.Expr{condition, yes, p.expr()}}
}

func (p *parser) matchExpr() api.Expr {
	e := api.Expr{Op: api.EMatch, Kids: []api.Expr{p.expr()}}
	p.expect("with")
	e.Alts = []api.Alt{p.alternative()}
	for p.accept("|") {
		e.Alts = append(e.Alts, p.alternative())
	}
	p.expect("end")
	return e
}

func (p *parser) alternative() api.Alt {
	alt := api.Alt{Con: p.textOf(token.Upper), Vars: optional(p, p.bind)}
	p.expect("->")
	alt.Body = p.expr()
	return alt
}

func (p *parser) fnExpr() api.Expr {
	p.expect("(")
	names := untilClosed(p, p.name)
	p.expect("->")
	return api.Expr{Op: api.EFn, Names: names, Kids: []api.Expr{p.expr()}}
}

func (p *parser) tryExpr() api.Expr {
	tried := p.expr()
	p.expect("catch")
	name := p.bind()
	p.expect("->")
	handler := p.expr()
	p.expect("end")
	return api.Expr{Op: api.ETry, Name: name, Kids: []api.Expr{tried, handler}}
}

func (p *parser) comparison() api.Expr {
	left := p.sum()
	if op := p.operator(api.OpLt, api.OpEq); op != 0 {
		return binary(op, left, p.sum())
	}
	return left
}

func (p *parser) sum() api.Expr {
	return p.leftAssociative(p.product, api.OpAdd, api.OpSub)
}

func (p *parser) product() api.Expr {
	return p.leftAssociative(p.application, api.OpMul, api.OpMod)
}

// leftAssociative reads operands with operators from first to last between them.
func (p *parser) leftAssociative(operand func() api.Expr, first, last int) api.Expr {
	left := operand()
	for op := p.operator(first, last); op != 0; op = p.operator(first, last) {
		left = binary(op, left, operand())
	}
	return left
}

// operator passes an operator from first to last, and returns 0 if there is none.
func (p *parser) operator(first, last int) int {
	for op := first; op <= last; op++ {
		if p.accept(operators[op-api.OpAdd]) {
			return op
		}
	}
	return 0
}

func binary(op int, left, right api.Expr) api.Expr {
	return api.Expr{Op: api.EBin, Num: int64(op), Kids: []api.Expr{left, right}}
}

func (p *parser) application() api.Expr {
	function := p.primary()
	for p.accept("(") {
		kids := append([]api.Expr{function}, untilClosed(p, p.expr)...)
		function = api.Expr{Op: api.EApp, Kids: kids}
	}
	return function
}

func (p *parser) primary() api.Expr {
	switch p.peek().Kind {
	case token.Number:
		return api.Expr{Op: api.EInt, Num: p.number()}
	case token.Name:
		return api.Expr{Op: api.EVar, Name: p.name()}
	case token.Upper:
		return api.Expr{Op: api.ECons, Name: p.textOf(token.Upper), Kids: optional(p, p.expr)}
	}
	switch {
	case p.accept("-"):
		return api.Expr{Op: api.EInt, Num: -p.number()}
	case p.accept("true"):
		return api.Expr{Op: api.EBool, Num: 1}
	case p.accept("false"):
		return api.Expr{Op: api.EBool}
	case p.accept("("):
		return p.parenthesized()
	case p.accept("tick"):
		return p.tickExpr()
	case p.accept("raise"):
		return api.Expr{Op: api.ERaise, Kids: p.operands(1)}
	}
	for i, each := range primitives {
		if p.accept(each.word) {
			return api.Expr{Op: api.EPrim, Num: int64(api.PNew + i), Kids: p.operands(each.operands)}
		}
	}
	p.fail()
	return api.Expr{}
}

// parenthesized reads what follows an opening parenthesis. Parentheses around one expression leave no node.
func (p *parser) parenthesized() api.Expr {
	kids := untilClosed(p, p.expr)
	switch len(kids) {
	case 0:
		return api.Expr{Op: api.EUnit}
	case 1:
		return kids[0]
	}
	return api.Expr{Op: api.ETuple, Kids: kids}
}

func (p *parser) tickExpr() api.Expr {
	p.expect("(")
	sign := int64(1)
	if p.accept("-") {
		sign = -1
	}
	number := p.number()
	p.expect(")")
	return api.Expr{Op: api.ETick, Num: sign * number}
}

// operands reads exactly so many expressions between parentheses.
func (p *parser) operands(count int) []api.Expr {
	p.expect("(")
	kids := []api.Expr{p.expr()}
	for len(kids) < count {
		p.expect(",")
		kids = append(kids, p.expr())
	}
	p.expect(")")
	return kids
}
