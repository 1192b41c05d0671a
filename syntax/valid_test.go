package syntax_test

import (
	"math/rand"
	"slices"
	"strings"
	"testing"

	"amortcost/api"
	"amortcost/syntax"
)

// expectValid compares Valid with the definition, and with what Format and Parse say.
func expectValid(t *testing.T, p api.Prog, want bool) {
	t.Helper()
	if defined := definedValid(p); defined != want {
		t.Errorf("the definition says %v of %v", defined, p)
	}
	if got := syntax.Valid(p); got != want {
		t.Errorf("%v: %v", p, got)
	}
	text := syntax.Format(p)
	if !want {
		if text != "" {
			t.Errorf("%v is not valid, but has the text %q", p, text)
		}
		return
	}
	if text != plain.prog(p) {
		t.Errorf("%v: %q", p, text)
	}
	if len(text) <= api.MaxText {
		expectParsed(t, text, p)
	}
}

// expectBody looks at an expression alone, and within others.
func expectBody(t *testing.T, e api.Expr, want bool) {
	t.Helper()
	expectValid(t, withBody(e), want)
	expectValid(t, withBody(plainly(api.EIf, one, two, plainly(api.ERaise, e))), want)
	expectValid(t, withBody(choice(one, api.Alt{Con: "N", Body: one}, api.Alt{Con: "C", Body: e})), want)
	expectValid(t, api.Prog{Funs: []api.FunExpr{{Name: "f", Body: one}, {Name: "g", Body: e}, {Name: "h", Body: one}}}, want)
	if text := syntax.FormatExpr(e); (text != "") != want || want && text != plain.at(0, e) {
		t.Errorf("%v: %q", e, text)
	}
}

func expectType(t *testing.T, arg api.TypeExpr, want bool) {
	t.Helper()
	expectValid(t, withType(arg), want)
	expectValid(t, withType(api.TypeExpr{Kind: api.TFun, Args: []api.TypeExpr{{Kind: api.TInt}, {Kind: api.TArray, Args: []api.TypeExpr{arg}}}}), want)
	integer := api.TypeExpr{Kind: api.TInt}
	expectValid(t, api.Prog{Data: []api.DataExpr{{Name: "A", Cons: []api.ConExpr{{Name: "B"}}}, {Name: "D", Cons: []api.ConExpr{{Name: "E"}, {Name: "F", Args: []api.TypeExpr{integer, arg, integer}}, {Name: "G"}}}}}, want)
}

// Promise 4.2: fields

func copies[T any](n int, each T) []T {
	var list []T
	for range n {
		list = append(list, copyOf(each))
	}
	return list
}

// TestFieldsOfNodes has every kind of node with every number of kids, names and alternatives, and with numbers and names of all sorts.
func TestFieldsOfNodes(t *testing.T) {
	alt := api.Alt{Con: "N", Body: one}
	for op := -1; op <= 18; op++ {
		for kids := range 9 {
			for names := range 8 {
				for alts := range 2 {
					for _, num := range []int64{-1, 0, 1, 2, 3, 8, 9} {
						for _, name := range []string{"", "x", "C", "if"} {
							e := api.Expr{Op: op, Name: name, Num: num, Names: copies(names, "y"), Kids: copies(kids, varX), Alts: copies(alts, alt)}
							if got, want := syntax.Valid(withBody(e)), rightNode(e); got != want {
								t.Errorf("%v: %v", e, got)
							}
						}
					}
				}
			}
		}
	}
	for _, op := range []int{-1 << 63, 1 << 62, 1<<63 - 1, 255, 256 + api.EUnit, 1<<32 + api.EUnit} {
		expectBody(t, plainly(op), false)
	}
}

func TestFieldsOfTypes(t *testing.T) {
	for _, kind := range []int{-1 << 63, -1, 0, 1, 2, 3, 4, 5, 6, 7, 8, 9, 10, 1<<32 + 1, 1<<63 - 1} {
		for args := range 9 {
			for _, name := range []string{"", "x", "C", "if", "int"} {
				arg := api.TypeExpr{Kind: kind, Name: name, Args: copies(args, api.TypeExpr{Kind: api.TInt})}
				expectType(t, arg, rightType(arg))
			}
		}
	}
}

func TestNumbers(t *testing.T) {
	for _, num := range []int64{-1 << 63, -1 << 32, -1000001, -1000000, -1001, -1000, -1, 0, 1, 2, 7, 8, 9, 1000, 1001, 1000000, 1000001, 1 << 32, 1<<32 + 1, 1<<63 - 1} {
		expectBody(t, number(api.EInt, num), num >= -1000000 && num <= 1000000)
		expectBody(t, number(api.ETick, num), num >= -1000 && num <= 1000)
		expectBody(t, number(api.EBool, num), num == 0 || num == 1)
		expectBody(t, number(api.EBin, num, one, two), num >= 1 && num <= 8)
		expectBody(t, number(api.EPrim, num, one), num >= api.PLen && num <= api.PRead)
		expectBody(t, number(api.EPrim, num, one, two), num == api.PNew || num == api.PGet || num == api.PWrite)
		expectBody(t, number(api.EPrim, num, one, two, three), num == api.PSet)
		for _, e := range []api.Expr{unit, varX, nothing, plainly(api.ETuple, one, two), named(api.ELet, "x", one, two), binding(api.EUntuple, []string{"x", "y"}, one, two), plainly(api.EIf, one, two, three), choice(one, api.Alt{Con: "N", Body: one}),
			binding(api.EFn, nil, one), plainly(api.EApp, one), plainly(api.ERaise, one), named(api.ETry, "x", one, two)} {
			e.Num = num
			expectBody(t, e, num == 0)
		}
	}
}

func TestNames(t *testing.T) {
	long := strings.Repeat("n", 23)
	names := append(slices.Clone(keywords), "", "x", "X", "xY_0", "Xy_0", "_", "_x", "0", "1x", "x1", "x-", "x y", " x", "x ", "X ", " X", "\tx", "x\n", "\nX", "x#", "x#c", "#\nx", "X#c\n", "x(", "()", "-1", "->", "x.y", "x'", "x\x00", "\x00", "\u00e9", "x\u00e9", "X\u00c9", "x\xff",
		"Int", "LET", "lets", "let_", "fn1", long+"x", long+"xy", "N"+long, "N"+long+"n", long+" ", " "+long, strings.Repeat("x", 1<<20), strings.Repeat(" ", 16383)+"x", strings.Repeat(" ", 20)+"x")
	for _, s := range names {
		// Places of names.
		expectBody(t, named(api.EVar, s), isName(s))
		expectBody(t, binding(api.EFn, []string{s}, one), isName(s))
		expectBody(t, binding(api.EFn, []string{"x", s, "y"}, one), isName(s))
		expectValid(t, api.Prog{Funs: []api.FunExpr{{Name: s, Body: one}}}, isName(s))
		expectValid(t, api.Prog{Funs: []api.FunExpr{{Name: "f", Params: []string{"x", s}, Body: one}}}, isName(s))
		expectValid(t, api.Prog{Data: []api.DataExpr{{Name: "D", Vars: []string{"a", s}, Cons: []api.ConExpr{{Name: "C"}}}}}, isName(s))
		expectType(t, api.TypeExpr{Kind: api.TVar, Name: s}, isName(s))
		// Places of binds.
		expectBody(t, named(api.ELet, s, one, two), isBind(s))
		expectBody(t, named(api.ETry, s, one, two), isBind(s))
		expectBody(t, binding(api.EUntuple, []string{s, "x"}, one, two), isBind(s))
		expectBody(t, binding(api.EUntuple, []string{"", "", s}, one, two), isBind(s))
		expectBody(t, choice(one, api.Alt{Con: "C", Vars: []string{"x", s}, Body: two}), isBind(s))
		// Places of upper names.
		expectBody(t, named(api.ECons, s), isUpper(s))
		expectBody(t, named(api.ECons, s, one), isUpper(s))
		expectBody(t, choice(one, api.Alt{Con: "N", Body: one}, api.Alt{Con: s, Body: two}), isUpper(s))
		expectValid(t, api.Prog{Data: []api.DataExpr{{Name: s, Cons: []api.ConExpr{{Name: "C"}}}}}, isUpper(s))
		expectValid(t, api.Prog{Data: []api.DataExpr{{Name: "D", Cons: []api.ConExpr{{Name: "C"}, {Name: s}}}}}, isUpper(s))
		expectType(t, api.TypeExpr{Kind: api.TData, Name: s}, isUpper(s))
		// Places of no name.
		for _, e := range []api.Expr{unit, number(api.EBool, 1), one, plainly(api.ETuple, one, two), binding(api.EUntuple, []string{"x", "y"}, one, two), plainly(api.EIf, one, two, three), choice(one, api.Alt{Con: "N", Body: one}),
			binding(api.EFn, nil, one), plainly(api.EApp, one), number(api.EBin, 1, one, two), number(api.EPrim, api.PLen, one), number(api.ETick, 1), plainly(api.ERaise, one)} {
			e.Name = s
			expectBody(t, e, s == "")
		}
		expectType(t, api.TypeExpr{Kind: api.TArray, Name: s, Args: []api.TypeExpr{{Kind: api.TInt}}}, s == "")
	}
}

func TestRandomlyChangedTrees(t *testing.T) {
	r := forge{rand.New(rand.NewSource(43))}
	valid := 0
	for range 6000 {
		p := r.prog()
		for range r.Intn(3) {
			r.change(&p)
		}
		want := definedValid(p)
		if want {
			valid++
		}
		expectValid(t, p, want)
	}
	if valid < 1000 || valid > 5000 {
		t.Errorf("%d of 6000 are valid", valid)
	}
}

// Promise 4.2: limits

// expectLimit looks at both sides of a limit.
func expectLimit(t *testing.T, limit int, make func(n int) api.Prog) {
	t.Helper()
	for n := limit - 1; n <= limit+2; n++ {
		p := make(n)
		expectValid(t, p, n <= limit)
		if text := plain.prog(p); n > limit && len(text) <= api.MaxText {
			expectRefused(t, text, 0, api.ErrLimit)
		}
	}
}

func TestCountLimits(t *testing.T) {
	integer := api.TypeExpr{Kind: api.TInt}
	body := func(limit int, make func(n int) api.Expr) {
		t.Helper()
		expectLimit(t, limit, func(n int) api.Prog { return withBody(make(n)) })
	}
	data := func(limit int, make func(n int) api.DataExpr) {
		t.Helper()
		expectLimit(t, limit, func(n int) api.Prog { return api.Prog{Data: []api.DataExpr{make(n)}} })
	}
	con := api.ConExpr{Name: "C"}
	expectLimit(t, 12, func(n int) api.Prog {
		return api.Prog{Data: copies(n, api.DataExpr{Name: "D", Cons: []api.ConExpr{con}})}
	})
	expectLimit(t, 24, func(n int) api.Prog { return api.Prog{Funs: copies(n, api.FunExpr{Name: "f", Body: one})} })
	expectLimit(t, 6, func(n int) api.Prog {
		return api.Prog{Funs: []api.FunExpr{{Name: "f", Params: copies(n, "x"), Body: one}}}
	})
	data(8, func(n int) api.DataExpr { return api.DataExpr{Name: "D", Cons: copies(n, con)} })
	data(6, func(n int) api.DataExpr {
		return api.DataExpr{Name: "D", Vars: copies(n, "a"), Cons: []api.ConExpr{con}}
	})
	data(6, func(n int) api.DataExpr {
		return api.DataExpr{Name: "D", Cons: []api.ConExpr{{Name: "C", Args: copies(n, integer)}}}
	})
	expectLimit(t, 6, func(n int) api.Prog {
		return withType(api.TypeExpr{Kind: api.TData, Name: "D", Args: copies(n, integer)})
	})
	expectLimit(t, 6, func(n int) api.Prog { return withType(api.TypeExpr{Kind: api.TTuple, Args: copies(n, integer)}) })
	expectLimit(t, 7, func(n int) api.Prog { return withType(api.TypeExpr{Kind: api.TFun, Args: copies(n, integer)}) })
	body(6, func(n int) api.Expr { return plainly(api.ETuple, copies(n, one)...) })
	body(6, func(n int) api.Expr { return named(api.ECons, "C", copies(n, one)...) })
	body(7, func(n int) api.Expr { return plainly(api.EApp, copies(n, varX)...) })
	body(6, func(n int) api.Expr { return binding(api.EUntuple, copies(n, "x"), one, two) })
	body(6, func(n int) api.Expr { return binding(api.EFn, copies(n, "x"), one) })
	body(6, func(n int) api.Expr { return choice(one, api.Alt{Con: "C", Vars: copies(n, ""), Body: two}) })
	// Alternatives have no limit of their own.
	body(598, func(n int) api.Expr { return choice(varX, copies(n, api.Alt{Con: "C", Body: one})...) })
}

// bushy has so many nodes, and few levels.
func bushy(nodes int) api.Expr {
	if nodes == 1 {
		return one
	}
	if nodes == 2 {
		return plainly(api.ERaise, varX)
	}
	return number(api.EBin, api.OpAdd, bushy((nodes-1)/2), bushy(nodes-1-(nodes-1)/2))
}

func TestNodeLimit(t *testing.T) {
	expectLimit(t, 600, func(n int) api.Prog { return withBody(bushy(n)) })
	expectLimit(t, 600, func(n int) api.Prog {
		return api.Prog{Funs: []api.FunExpr{{Name: "f", Body: bushy(300)}, {Name: "g", Body: one}, {Name: "h", Body: bushy(n - 301)}}}
	})
	expectLimit(t, 600, func(n int) api.Prog {
		return withBody(choice(bushy(200), api.Alt{Con: "N", Body: bushy(198)}, api.Alt{Con: "C", Body: bushy(n - 399)}))
	})
	expectLimit(t, 600, func(n int) api.Prog {
		return api.Prog{Funs: append(copies(23, api.FunExpr{Name: "f", Body: bushy(20)}), api.FunExpr{Name: "g", Body: bushy(n - 460)})}
	})
}

// wraps has for each place of an expression within another one a function that puts it there.
func wraps() []func(e api.Expr) api.Expr {
	var list []func(e api.Expr) api.Expr
	for _, outer := range []api.Expr{
		plainly(api.ETuple, one, two, three), named(api.ECons, "C", one, two), named(api.ELet, "x", one, two), binding(api.EUntuple, []string{"x", "y"}, one, two), plainly(api.EIf, one, two, three),
		choice(one), binding(api.EFn, []string{"x"}, one), plainly(api.EApp, varG, one, two), number(api.EPrim, api.PSet, varX, one, two), number(api.EPrim, api.PLen, varX), plainly(api.ERaise, one), named(api.ETry, "x", one, two),
	} {
		if outer.Op == api.EMatch {
			outer.Alts = []api.Alt{{Con: "N", Body: two}, {Con: "C", Vars: []string{"x", ""}, Body: three}}
		}
		list = append(list, wrapsOf(outer)...)
	}
	for op := range places {
		list = append(list, wrapsOf(number(api.EBin, op, varX, varY))...)
	}
	return list
}

func wrapsOf(outer api.Expr) []func(e api.Expr) api.Expr {
	var list []func(e api.Expr) api.Expr
	for i := range outer.Kids {
		list = append(list, func(e api.Expr) api.Expr {
			c := copyOf(outer)
			c.Kids[i] = e
			return c
		})
	}
	for i := range outer.Alts {
		list = append(list, func(e api.Expr) api.Expr {
			c := copyOf(outer)
			c.Alts[i].Body = e
			return c
		})
	}
	return list
}

func nested(levels int, inner api.Expr, wrap func(e api.Expr) api.Expr) api.Expr {
	for range levels - 1 {
		inner = wrap(inner)
	}
	return inner
}

func TestDepthLimit(t *testing.T) {
	for _, wrap := range wraps() {
		expectLimit(t, 40, func(n int) api.Prog { return withBody(nested(n, varX, wrap)) })
		expectLimit(t, 40, func(n int) api.Prog {
			return api.Prog{Funs: []api.FunExpr{{Name: "f", Body: one}, {Name: "g", Body: nested(n, unit, wrap)}}}
		})
		if deepest := nested(40, unit, wrap); syntax.FormatExpr(deepest) != plain.at(0, deepest) || syntax.FormatExpr(wrap(deepest)) != "" {
			t.Errorf("%v", deepest)
		}
	}
	integer := api.TypeExpr{Kind: api.TInt}
	for _, outer := range []api.TypeExpr{{Kind: api.TArray, Args: copies(1, integer)}, {Kind: api.TRef, Args: copies(1, integer)}, {Kind: api.TTuple, Args: copies(3, integer)}, {Kind: api.TFun, Args: copies(1, integer)}, {Kind: api.TFun, Args: copies(3, integer)}, {Kind: api.TData, Name: "D", Args: copies(2, integer)}} {
		for i := range outer.Args {
			expectLimit(t, 40, func(n int) api.Prog {
				arg := api.TypeExpr{Kind: api.TVar, Name: "a"}
				for range n - 1 {
					next := copyOf(outer)
					next.Args[i] = arg
					arg = next
				}
				return withType(arg)
			})
		}
	}
	// The levels of different bodies and types do not add up, and parentheses are no level.
	deep := nested(40, varX, func(e api.Expr) api.Expr { return plainly(api.ERaise, e) })
	expectValid(t, api.Prog{Funs: copies(12, api.FunExpr{Name: "f", Body: deep})}, true)
	expectParsed(t, "fun f() = "+strings.Repeat("(", 100)+plain.at(0, deep)+strings.Repeat(")", 100)+";", withBody(deep))
}

// TestLargeTypes has types without a limit for the number of their nodes.
func TestLargeTypes(t *testing.T) {
	wide := api.TypeExpr{Kind: api.TInt}
	for range 5 {
		wide = api.TypeExpr{Kind: api.TTuple, Args: copies(6, wide)}
	}
	p := withType(wide)
	if !syntax.Valid(p) || syntax.Format(p) != plain.prog(p) || !syntax.Equal(p, copyOf(p)) {
		t.Error("a type with 9331 nodes")
	}
}

func TestEmptyProgram(t *testing.T) {
	expectValid(t, api.Prog{}, true)
	expectValid(t, api.Prog{Data: []api.DataExpr{}, Funs: []api.FunExpr{}}, true)
	expectValid(t, api.Prog{Funs: []api.FunExpr{{}}}, false)
	expectValid(t, api.Prog{Data: []api.DataExpr{{}}}, false)
	expectValid(t, api.Prog{Data: []api.DataExpr{{Name: "D"}}}, false)
	expectValid(t, withBody(api.Expr{}), false)
	expectValid(t, withType(api.TypeExpr{}), false)
}
