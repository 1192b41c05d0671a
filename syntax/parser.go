package syntax

import (
	"amortcost/api"
	"amortcost/token"
)

// parser reads the grammar, a method for each rule. Its first error stays: from then on it accepts no token, so that every method ends soon, with a result that nobody uses.
type parser struct {
	tokens  []token.Token
	next    int
	pos     int
	refusal api.Errno
}

// peek returns the next token, and behind an error a token of no kind.
func (p *parser) peek() token.Token {
	if p.refusal != api.OK {
		return token.Token{}
	}
	return p.tokens[p.next]
}

func (p *parser) fail() {
	if p.refusal == api.OK {
		p.pos, p.refusal = p.tokens[p.next].Pos, api.ErrSyntax
	}
}

// accept passes the next token if it is this keyword or sign. No token of another kind has such a text.
func (p *parser) accept(text string) bool {
	if p.peek().Text != text {
		return false
	}
	p.next++
	return true
}

func (p *parser) expect(text string) {
	if !p.accept(text) {
		p.fail()
	}
}

// textOf passes a token of a kind, which is not token.End, and returns its text.
func (p *parser) textOf(kind int) string {
	next := p.peek()
	if next.Kind != kind {
		p.fail()
		return ""
	}
	p.next++
	return next.Text
}

func (p *parser) name() string {
	return p.textOf(token.Name)
}

// bind returns "" for "_".
func (p *parser) bind() string {
	if p.accept("_") {
		return ""
	}
	return p.name()
}

// number relies on token.Split, which refuses numbers above api.MaxLiteral.
func (p *parser) number() int64 {
	var value int64
	for _, digit := range p.textOf(token.Number) {
		value = 10*value + int64(digit-'0')
	}
	return value
}

// series reads one item or more, with commas between them.
func series[T any](p *parser, item func() T) []T {
	items := []T{item()}
	for p.accept(",") {
		items = append(items, item())
	}
	return items
}

// atLeastTwo reads items between parentheses.
func atLeastTwo[T any](p *parser, item func() T) []T {
	p.expect("(")
	items := []T{item()}
	p.expect(",")
	items = append(items, series(p, item)...)
	p.expect(")")
	return items
}

// optional reads parentheses with one item or more, if there are any.
func optional[T any](p *parser, item func() T) []T {
	if !p.accept("(") {
		return nil
	}
	items := series(p, item)
	p.expect(")")
	return items
}

// untilClosed reads any number of items and the parenthesis behind them.
func untilClosed[T any](p *parser, item func() T) []T {
	if p.accept(")") {
		return nil
	}
	items := series(p, item)
	p.expect(")")
	return items
}

func (p *parser) program() api.Prog {
	var prog api.Prog
	for p.peek().Kind != token.End {
		switch {
		case p.accept("data"):
			prog.Data = append(prog.Data, p.dataDecl())
		case p.accept("fun"):
			prog.Funs = append(prog.Funs, p.funDecl())
		default:
			p.fail()
			return api.Prog{}
		}
	}
	return prog
}

// dataDecl reads a declaration behind its keyword, as does funDecl.
func (p *parser) dataDecl() api.DataExpr {
	data := api.DataExpr{Name: p.textOf(token.Upper), Vars: optional(p, p.name)}
	p.expect("=")
	data.Cons = []api.ConExpr{p.constructor()}
	for p.accept("|") {
		data.Cons = append(data.Cons, p.constructor())
	}
	p.expect(";")
	return data
}

func (p *parser) constructor() api.ConExpr {
	return api.ConExpr{Name: p.textOf(token.Upper), Args: optional(p, p.typeExpr)}
}

func (p *parser) funDecl() api.FunExpr {
	fun := api.FunExpr{Name: p.name()}
	p.expect("(")
	fun.Params = untilClosed(p, p.name)
	p.expect("=")
	fun.Body = p.expr()
	p.expect(";")
	return fun
}

func (p *parser) typeExpr() api.TypeExpr {
	switch next := p.peek(); {
	case p.accept("int"):
		return api.TypeExpr{Kind: api.TInt}
	case p.accept("bool"):
		return api.TypeExpr{Kind: api.TBool}
	case p.accept("unit"):
		return api.TypeExpr{Kind: api.TUnit}
	case p.accept("array"):
		return api.TypeExpr{Kind: api.TArray, Args: p.contentType()}
	case p.accept("ref"):
		return api.TypeExpr{Kind: api.TRef, Args: p.contentType()}
	case p.accept("fn"):
		return p.functionType()
	case next.Kind == token.Upper:
		return api.TypeExpr{Kind: api.TData, Name: p.textOf(token.Upper), Args: optional(p, p.typeExpr)}
	case next.Kind == token.Name:
		return api.TypeExpr{Kind: api.TVar, Name: p.name()}
	case next.Text == "(":
		return api.TypeExpr{Kind: api.TTuple, Args: atLeastTwo(p, p.typeExpr)}
	}
	p.fail()
	return api.TypeExpr{}
}

func (p *parser) contentType() []api.TypeExpr {
	p.expect("(")
	content := p.typeExpr()
	p.expect(")")
	return []api.TypeExpr{content}
}

func (p *parser) functionType() api.TypeExpr {
	p.expect("(")
	args := untilClosed(p, p.typeExpr)
	p.expect("->")
	return api.TypeExpr{Kind: api.TFun, Args: append(args, p.typeExpr())}
}
