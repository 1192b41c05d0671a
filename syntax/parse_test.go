package syntax_test

import (
	"math/rand"
	"slices"
	"strings"
	"testing"

	"amortcost/api"
	"amortcost/syntax"
	"amortcost/token"
)

func expectParsed(t *testing.T, src string, want api.Prog) {
	t.Helper()
	got, pos, refusal := syntax.Parse(src)
	if refusal != api.OK || pos != 0 || !same(got, want) {
		t.Errorf("%.300q: %v, %d, %d, want %v", src, got, pos, refusal, want)
	}
}

func expectRefused(t *testing.T, src string, wantPos int, want api.Errno) {
	t.Helper()
	got, pos, refusal := syntax.Parse(src)
	if refusal != want || pos != wantPos || !same(got, api.Prog{}) {
		t.Errorf("%.300q: %v, %d, %d, want %d, %d", src, got, pos, refusal, wantPos, want)
	}
}

// withBody returns a program with one function.
func withBody(body api.Expr) api.Prog {
	return api.Prog{Funs: []api.FunExpr{{Name: "f", Body: body}}}
}

// withType returns a program with one constructor argument.
func withType(arg api.TypeExpr) api.Prog {
	return api.Prog{Data: []api.DataExpr{{Name: "D", Cons: []api.ConExpr{{Name: "C", Args: []api.TypeExpr{arg}}}}}}
}

// Short ways to write trees.

func named(op int, name string, kids ...api.Expr) api.Expr {
	return api.Expr{Op: op, Name: name, Kids: kids}
}

func number(op int, num int64, kids ...api.Expr) api.Expr {
	return api.Expr{Op: op, Num: num, Kids: kids}
}

func plainly(op int, kids ...api.Expr) api.Expr {
	return api.Expr{Op: op, Kids: kids}
}

func binding(op int, names []string, kids ...api.Expr) api.Expr {
	return api.Expr{Op: op, Names: names, Kids: kids}
}

func choice(kid api.Expr, alts ...api.Alt) api.Expr {
	return api.Expr{Op: api.EMatch, Kids: []api.Expr{kid}, Alts: alts}
}

var (
	unit    = plainly(api.EUnit)
	one     = number(api.EInt, 1)
	two     = number(api.EInt, 2)
	three   = number(api.EInt, 3)
	varX    = named(api.EVar, "x")
	varY    = named(api.EVar, "y")
	varG    = named(api.EVar, "g")
	nothing = named(api.ECons, "N")
)

// exprCase is a text as Format writes it, and its tree.
type exprCase struct {
	text string
	tree api.Expr
}

func exprCases() []exprCase {
	fn := func(names ...string) api.Expr { return binding(api.EFn, names, varX) }
	return []exprCase{
		{"()", unit}, {"true", number(api.EBool, 1)}, {"false", number(api.EBool, 0)},
		{"0", number(api.EInt, 0)}, {"1000000", number(api.EInt, 1000000)}, {"-3", number(api.EInt, -3)}, {"-1000000", number(api.EInt, -1000000)},
		{"x", varX}, {"zZ_9", named(api.EVar, "zZ_9")}, {"(1, x)", plainly(api.ETuple, one, varX)}, {"(1, 2, 3, x, y, ())", plainly(api.ETuple, one, two, three, varX, varY, unit)},
		{"N", nothing}, {"C(1)", named(api.ECons, "C", one)}, {"C(1, N)", named(api.ECons, "C", one, nothing)}, {"C(())", named(api.ECons, "C", unit)}, {"C((1, 2))", named(api.ECons, "C", plainly(api.ETuple, one, two))},
		{"let x = 1 in 2", named(api.ELet, "x", one, two)}, {"let _ = 1 in 2", named(api.ELet, "", one, two)},
		{"let x = let y = 1 in 2 in let y = 3 in 1", named(api.ELet, "x", named(api.ELet, "y", one, two), named(api.ELet, "y", three, one))},
		{"let (x, _) = 1 in 2", binding(api.EUntuple, []string{"x", ""}, one, two)}, {"let (_, _, y) = 1 in 2", binding(api.EUntuple, []string{"", "", "y"}, one, two)},
		{"if 1 then 2 else 3", plainly(api.EIf, one, two, three)}, {"if if 1 then 2 else 3 then if 1 then 2 else 3 else if 1 then 2 else 3",
			plainly(api.EIf, plainly(api.EIf, one, two, three), plainly(api.EIf, one, two, three), plainly(api.EIf, one, two, three))},
		{"match x with N -> 1 end", choice(varX, api.Alt{Con: "N", Body: one})},
		{"match x with C(x, _) -> 1 | D(_) -> match y with N -> 2 | C -> 3 end | N -> x end", choice(varX, api.Alt{Con: "C", Vars: []string{"x", ""}, Body: one},
			api.Alt{Con: "D", Vars: []string{""}, Body: choice(varY, api.Alt{Con: "N", Body: two}, api.Alt{Con: "C", Body: three})}, api.Alt{Con: "N", Body: varX})},
		{"fn() -> x", fn()}, {"fn(x) -> x", fn("x")}, {"fn(x, y, x) -> x", fn("x", "y", "x")}, {"fn(x) -> -3", binding(api.EFn, []string{"x"}, number(api.EInt, -3))},
		{"g()", plainly(api.EApp, varG)}, {"g(1)", plainly(api.EApp, varG, one)}, {"g(1, x)", plainly(api.EApp, varG, one, varX)}, {"g()(1)(2, 3)", plainly(api.EApp, plainly(api.EApp, plainly(api.EApp, varG), one), two, three)},
		{"(N)()", plainly(api.EApp, nothing)}, {"(N)(1)", plainly(api.EApp, nothing, one)}, {"C(1)(2)", plainly(api.EApp, named(api.ECons, "C", one), two)},
		{"()()", plainly(api.EApp, unit)}, {"(1, 2)(3)", plainly(api.EApp, plainly(api.ETuple, one, two), three)}, {"1(2)", plainly(api.EApp, one, two)}, {"-1(2)", plainly(api.EApp, number(api.EInt, -1), two)},
		{"tick(1)(2)", plainly(api.EApp, number(api.ETick, 1), two)}, {"raise(1)(2)", plainly(api.EApp, plainly(api.ERaise, one), two)}, {"read(x)(2)", plainly(api.EApp, number(api.EPrim, api.PRead, varX), two)},
		{"(fn(x) -> x)(1)", plainly(api.EApp, fn("x"), one)}, {"g(fn(x) -> x, let x = 1 in 2)", plainly(api.EApp, varG, fn("x"), named(api.ELet, "x", one, two))},
		{"new(1, x)", number(api.EPrim, api.PNew, one, varX)}, {"get(x, 1)", number(api.EPrim, api.PGet, varX, one)}, {"set(x, 1, 2)", number(api.EPrim, api.PSet, varX, one, two)}, {"len(x)", number(api.EPrim, api.PLen, varX)},
		{"ref(1)", number(api.EPrim, api.PRef, one)}, {"read(x)", number(api.EPrim, api.PRead, varX)}, {"write(x, 1)", number(api.EPrim, api.PWrite, varX, one)},
		{"tick(0)", number(api.ETick, 0)}, {"tick(1000)", number(api.ETick, 1000)}, {"tick(-3)", number(api.ETick, -3)}, {"tick(-1000)", number(api.ETick, -1000)}, {"raise(1)", plainly(api.ERaise, one)}, {"raise(raise(x))", plainly(api.ERaise, plainly(api.ERaise, varX))},
		{"try 1 catch x -> 2 end", named(api.ETry, "x", one, two)}, {"try 1 catch _ -> 2 end", named(api.ETry, "", one, two)}, {"try try 1 catch x -> 2 end catch y -> try 1 catch x -> 2 end end",
			named(api.ETry, "y", named(api.ETry, "x", one, two), named(api.ETry, "x", one, two))},
	}
}

func binaryCases() []exprCase {
	bin := func(op int64, a, b api.Expr) api.Expr { return number(api.EBin, op, a, b) }
	cases := []exprCase{
		{"x - 1 - 2", bin(api.OpSub, bin(api.OpSub, varX, one), two)}, {"x - (1 - 2)", bin(api.OpSub, varX, bin(api.OpSub, one, two))},
		{"x / 1 * 2 % 3", bin(api.OpMod, bin(api.OpMul, bin(api.OpDiv, varX, one), two), three)}, {"x * (1 / 2)", bin(api.OpMul, varX, bin(api.OpDiv, one, two))},
		{"x + 1 * 2", bin(api.OpAdd, varX, bin(api.OpMul, one, two))}, {"(x + 1) * 2", bin(api.OpMul, bin(api.OpAdd, varX, one), two)}, {"x * 1 + 2", bin(api.OpAdd, bin(api.OpMul, varX, one), two)},
		{"x + 1 < 2 - 3", bin(api.OpLt, bin(api.OpAdd, varX, one), bin(api.OpSub, two, three))}, {"(x < 1) < 2", bin(api.OpLt, bin(api.OpLt, varX, one), two)}, {"x <= (1 == 2)", bin(api.OpLe, varX, bin(api.OpEq, one, two))},
		{"x - -1", bin(api.OpSub, varX, number(api.EInt, -1))}, {"-1 - 1", bin(api.OpSub, number(api.EInt, -1), one)}, {"x * -2", bin(api.OpMul, varX, number(api.EInt, -2))},
		{"g(1) * g(2)", bin(api.OpMul, plainly(api.EApp, varG, one), plainly(api.EApp, varG, two))}, {"(x + 1)(2)", plainly(api.EApp, bin(api.OpAdd, varX, one), two)},
		{"1 + (let x = 1 in 2)", bin(api.OpAdd, one, named(api.ELet, "x", one, two))}, {"(fn() -> x) + 1", bin(api.OpAdd, binding(api.EFn, nil, varX), one)}, {"fn() -> x + 1", binding(api.EFn, nil, bin(api.OpAdd, varX, one))},
		{"if x < 1 then x == 2 else x <= 3", plainly(api.EIf, bin(api.OpLt, varX, one), bin(api.OpEq, varX, two), bin(api.OpLe, varX, three))},
	}
	for op, place := range places {
		cases = append(cases, exprCase{"x " + place.sign + " y", bin(op, varX, varY)})
	}
	return cases
}

type typeCase struct {
	text string
	tree api.TypeExpr
}

func typeCases() []typeCase {
	made := func(kind int, name string, args ...api.TypeExpr) api.TypeExpr {
		return api.TypeExpr{Kind: kind, Name: name, Args: args}
	}
	num, truth, void, a := made(api.TInt, ""), made(api.TBool, ""), made(api.TUnit, ""), made(api.TVar, "a")
	return []typeCase{
		{"int", num}, {"bool", truth}, {"unit", void}, {"a", a}, {"D", made(api.TData, "D")}, {"D(a)", made(api.TData, "D", a)}, {"D(int, D(a, b))", made(api.TData, "D", num, made(api.TData, "D", a, made(api.TVar, "b")))},
		{"array(int)", made(api.TArray, "", num)}, {"ref(bool)", made(api.TRef, "", truth)}, {"array(ref((int, a)))", made(api.TArray, "", made(api.TRef, "", made(api.TTuple, "", num, a)))},
		{"(int, bool)", made(api.TTuple, "", num, truth)}, {"(a, (unit, a), int, int, int, int)", made(api.TTuple, "", a, made(api.TTuple, "", void, a), num, num, num, num)},
		{"fn() -> int", made(api.TFun, "", num)}, {"fn(int) -> bool", made(api.TFun, "", num, truth)}, {"fn(int, a) -> unit", made(api.TFun, "", num, a, void)},
		{"fn(fn(int) -> a) -> fn() -> (a, fn(a) -> a)", made(api.TFun, "", made(api.TFun, "", num, a), made(api.TFun, "", made(api.TTuple, "", a, made(api.TFun, "", a, a))))},
	}
}

// Promise 4.1: trees

func TestParseExpressions(t *testing.T) {
	for _, c := range append(exprCases(), binaryCases()...) {
		expectParsed(t, "fun f() = "+c.text+";", withBody(c.tree))
		expectParsed(t, "fun f() = (("+c.text+"));", withBody(c.tree))
	}
}

func TestParseTypes(t *testing.T) {
	for _, c := range typeCases() {
		expectParsed(t, "data D = C("+c.text+");", withType(c.tree))
	}
}

func TestParseTexts(t *testing.T) {
	bin := func(op int64, a, b api.Expr) api.Expr { return number(api.EBin, op, a, b) }
	for text, tree := range map[string]api.Expr{
		"-0": number(api.EInt, 0), "- 7": number(api.EInt, -7), "-\n#c\n7": number(api.EInt, -7), "tick(-0)": number(api.ETick, 0), "tick ( - 2 )": number(api.ETick, -2),
		"x-1": bin(api.OpSub, varX, one), "x -1": bin(api.OpSub, varX, one), "x--1": bin(api.OpSub, varX, number(api.EInt, -1)), "1-1": bin(api.OpSub, one, one),
		"C (1)": named(api.ECons, "C", one), "C#c\n(1)": named(api.ECons, "C", one), "(C)(1)": plainly(api.EApp, named(api.ECons, "C"), one), "((C))(1)": plainly(api.EApp, named(api.ECons, "C"), one), "C(1)(2)": plainly(api.EApp, named(api.ECons, "C", one), two),
		"(C(1))(2)": plainly(api.EApp, named(api.ECons, "C", one), two), "g (1) (2)": plainly(api.EApp, plainly(api.EApp, varG, one), two), "( )": unit, "(g)()": plainly(api.EApp, varG), "g(())": plainly(api.EApp, varG, unit),
		"((1), (2))": plainly(api.ETuple, one, two), "((1, 2))": plainly(api.ETuple, one, two), "(x) - (1)": bin(api.OpSub, varX, one), "let (x,y)=1in 2": binding(api.EUntuple, []string{"x", "y"}, one, two),
		"x<=1": bin(api.OpLe, varX, one), "x< 1": bin(api.OpLt, varX, one), "x==1": bin(api.OpEq, varX, one), "fn(x)->x-1": binding(api.EFn, []string{"x"}, bin(api.OpSub, varX, one)),
		"match x with N->1|C->2 end": choice(varX, api.Alt{Con: "N", Body: one}, api.Alt{Con: "C", Body: two}), "match x with C(_)->fn()->1|N->2 end": choice(varX, api.Alt{Con: "C", Vars: []string{""}, Body: binding(api.EFn, nil, one)}, api.Alt{Con: "N", Body: two}),
	} {
		expectParsed(t, "fun f() = "+text+";", withBody(tree))
	}
}

func TestParsePrograms(t *testing.T) {
	for _, blank := range []string{"", " ", "# nothing", "\n\t\r\n# c\n"} {
		expectParsed(t, blank, api.Prog{})
	}
	list := api.DataExpr{Name: "L", Vars: []string{"a"}, Cons: []api.ConExpr{{Name: "N"}, {Name: "C", Args: []api.TypeExpr{{Kind: api.TVar, Name: "a"}, {Kind: api.TData, Name: "L", Args: []api.TypeExpr{{Kind: api.TVar, Name: "a"}}}}}}}
	pair := api.DataExpr{Name: "P", Vars: []string{"a", "b"}, Cons: []api.ConExpr{{Name: "P"}}}
	first := api.FunExpr{Name: "f", Params: []string{"x", "y"}, Body: varX}
	second := api.FunExpr{Name: "g", Body: one}
	want := api.Prog{Data: []api.DataExpr{list, pair}, Funs: []api.FunExpr{first, second}}
	texts := []string{"data L(a) = N | C(a, L(a));", "data P(a,b)=P;", "fun f(x, y) = x;", "fun g() = 1;"}
	for _, order := range [][]int{{0, 1, 2, 3}, {2, 3, 0, 1}, {2, 0, 3, 1}, {0, 2, 1, 3}, {0, 2, 3, 1}, {2, 0, 1, 3}} {
		var src string
		for _, i := range order {
			src += texts[i]
		}
		expectParsed(t, src, want)
	}
	expectParsed(t, texts[1]+texts[0]+texts[3]+texts[2], api.Prog{Data: []api.DataExpr{pair, list}, Funs: []api.FunExpr{second, first}})
	// What names mean is not a matter of this layer.
	expectParsed(t, "fun f(x, x) = D(z); fun f() = f(1);", api.Prog{Funs: []api.FunExpr{{Name: "f", Params: []string{"x", "x"}, Body: named(api.ECons, "D", named(api.EVar, "z"))}, {Name: "f", Body: plainly(api.EApp, named(api.EVar, "f"), one)}}})
}

func TestParseOperatorsAssociateToTheLeft(t *testing.T) {
	for first, a := range places {
		for second, b := range places {
			left := number(api.EBin, second, number(api.EBin, first, varX, varY), varG)
			right := number(api.EBin, first, varX, number(api.EBin, second, varY, varG))
			src := "fun f() = x" + a.sign + "y" + b.sign + "g;"
			switch {
			case a.level == 1 && b.level == 1:
				expectRefused(t, src, len("fun f() = x"+a.sign+"y"), api.ErrSyntax)
			case a.level >= b.level:
				expectParsed(t, src, withBody(left))
			default:
				expectParsed(t, src, withBody(right))
			}
		}
	}
}

// decorated joins the tokens of a text by gaps.
func decorated(r forge, src string) string {
	tokens, _, _ := token.Split(src)
	var text strings.Builder
	for _, each := range tokens {
		text.WriteString(each.Text)
		text.WriteString(r.pick(" ", "\n", "\t", "\r", "  ", "#\n", " # a (comment) -> 1\n", "\n\n"))
	}
	return text.String()
}

// dense joins the tokens of a text by as few blanks as possible.
func dense(src string) string {
	tokens, _, _ := token.Split(src)
	var text string
	for i, each := range tokens {
		longer, _, _ := token.Split(text + each.Text)
		if len(longer) < i+2 && each.Kind != token.End {
			text += " "
		}
		text += each.Text
	}
	return text
}

func TestParseRandomPrograms(t *testing.T) {
	r := forge{rand.New(rand.NewSource(4))}
	for range 1500 {
		want := r.prog()
		text := plain.prog(want)
		if len(syntaxNodes(want)) > api.MaxNodes || len(text) > api.MaxText/4 {
			continue
		}
		expectParsed(t, text, want)
		expectParsed(t, printer{func() bool { return r.Intn(3) == 0 }}.prog(want), want)
		expectParsed(t, decorated(r, text), want)
		expectParsed(t, dense(text), want)
	}
}

func syntaxNodes(p api.Prog) []api.Expr {
	var list []api.Expr
	for _, f := range p.Funs {
		list = append(list, preorder(f.Body)...)
	}
	return list
}

// Promise 4.1: errors

func TestParseErrors(t *testing.T) {
	expectRefused(t, "fun f( = 1;", 7, api.ErrSyntax)
	// A "^" stands for a blank before the token that cannot follow, or for the end.
	for _, marked := range []string{
		"^x", "^;", "^1", "^L", "^let", "fun f() = 1;^;", "fun f() = 1^", "fun f() = 1 # c^", "fun f() = 1\n^", "fun f() = 1^fun", "data D = C;^x", "^in",
		"fun^", "fun ^F", "fun ^let", "fun ^_", "fun ^1", "fun f^", "fun f^= 1;", "fun f(^1", "fun f(^_", "fun f(x^", "fun f(x^x", "fun f(x,^)", "fun f(^,", "fun f(^X)", "fun f()^1", "fun f()^==", "fun f() =^", "fun f() = ^;",
		"data^", "data ^d", "data D^", "data D(^)", "data D(^A)", "data D(a^", "data D(a,^)", "data D(a)^;", "data D =^", "data D = ^;", "data D = ^c", "data D = C^", "data D = C |^", "data D = C | ^;", "data D = C | ^|", "data D = C(^)", "data D = C(int^", "data D = C(int,^)", "data D = ^| C;",
		"data D = C(^1", "data D = C(^_", "data D = C((^)", "data D = C((int^)", "data D = C((int, bool^;", "data D = C(array^)", "data D = C(array(^)", "data D = C(array(int^,", "data D = C(ref(int^,", "data D = C(ref^int", "data D = C(fn^int", "data D = C(fn(int^->", "data D = C(fn(int)^)", "data D = C(fn(int) ->^)",
		"data D = C(fn(int,^)", "data D = C(E(^)", "data D = C(a^(", "data D = C(int^(", "data D = C(^let", "data D = C(^true", "data D = C(^tick", "data D = C(^len", "data D = C(^fun",
		"fun f() = let^;", "fun f() = let ^1", "fun f() = let ^X", "fun f() = let x^in", "fun f() = let x^==", "fun f() = let x =^in", "fun f() = let x = 1^;", "fun f() = let x = 1 in^;", "fun f() = let (^)", "fun f() = let (x^)", "fun f() = let (_^)", "fun f() = let (x,^)", "fun f() = let (x, y^=", "fun f() = let (x, ^1", "fun f() = let (x, y)^in", "fun f() = let (^(",
		"fun f() = if^then", "fun f() = if 1^else", "fun f() = if 1 then 2^;", "fun f() = if 1 then 2 else^;", "fun f() = if 1 then 2^end",
		"fun f() = match^with", "fun f() = match x^;", "fun f() = match x with^end", "fun f() = match x with ^x", "fun f() = match x with ^_", "fun f() = match x with ^| N", "fun f() = match x with N^end", "fun f() = match x with N^= 1", "fun f() = match x with N ->^end", "fun f() = match x with N -> 1^;", "fun f() = match x with N -> 1 |^end", "fun f() = match x with N(^)", "fun f() = match x with N(x^->", "fun f() = match x with N(^1", "fun f() = match x with N(x,^)", "fun f() = match x with N(^M",
		"fun f() = fn^x", "fun f() = fn(^_", "fun f() = fn(x^_", "fun f() = fn(x)^=", "fun f() = fn(x) ->^;", "fun f() = fn(^1",
		"fun f() = try^catch", "fun f() = try 1^end", "fun f() = try 1 catch^->", "fun f() = try 1 catch ^N", "fun f() = try 1 catch ^(", "fun f() = try 1 catch x^2", "fun f() = try 1 catch x ->^end", "fun f() = try 1 catch x -> 2^;", "fun f() = try 1 catch x -> 2^|",
		"fun f() = 1 +^;", "fun f() = 1 + ^+ 2;", "fun f() = 1 * ^* 2;", "fun f() = ^+ 1;", "fun f() = -^x;", "fun f() = - ^- 1;", "fun f() = -^(", "fun f() = 1^2;", "fun f() = x^y;", "fun f() = 1 < 2^< 3;", "fun f() = 1 < 2^== 3;", "fun f() = 1 == ^let", "fun f() = 1 + ^if", "fun f() = 1 * ^fn", "fun f() = 1 < ^match", "fun f() = 1 - ^try", "fun f() = 1^= 2;", "fun f() = 1 ^-> 2", "fun f() = ^_;", "fun f() = ^int;", "fun f() = ^array(1);", "fun f() = ^unit;", "fun f() = ^= 1;",
		"fun f() = (^;", "fun f() = (1^;", "fun f() = (1,^)", "fun f() = (1, 2^;", "fun f() = (1, 2,^)", "fun f() = ()^1;", "fun f() = (^,", "fun f() = g(^;", "fun f() = g(1^;", "fun f() = g(1,^)", "fun f() = g(1^2", "fun f() = g(^,", "fun f() = C(^)", "fun f() = C(1,^)", "fun f() = C(1^2", "fun f() = C^D;", "fun f() = C^1;", "fun f() = x^C;", "fun f() = 1^)",
		"fun f() = true^false;", "fun f() = true^1;", "fun f() = tick^;", "fun f() = tick(^)", "fun f() = tick(^x", "fun f() = tick(-^)", "fun f() = tick(-^-", "fun f() = tick(1^+", "fun f() = tick(1^,", "fun f() = tick(^(", "fun f() = raise^;", "fun f() = raise^1", "fun f() = raise(^)", "fun f() = raise(1^,",
		"fun f() = new^;", "fun f() = new(^)", "fun f() = new(1^)", "fun f() = new(1,^)", "fun f() = new(1, 2^,", "fun f() = get(1^)", "fun f() = get(1, 2^,", "fun f() = set(1^)", "fun f() = set(1, 2^)", "fun f() = set(1, 2, 3^,", "fun f() = len(^)", "fun f() = len(1^,", "fun f() = ref(^)", "fun f() = ref(1^,", "fun f() = read(1^,", "fun f() = read^x", "fun f() = write(1^)", "fun f() = write(1, 2^,", "fun f() = ^data", "fun f() = 1^data", "fun f() = ^fun", "fun f() = ^end", "fun f() = ^in",
	} {
		src, misfit, _ := strings.Cut(marked, "^")
		place := len(src)
		if misfit != "" {
			src += " " + misfit
			place++
		}
		expectRefused(t, src, place, api.ErrSyntax)
		if place < len(src) {
			expectRefused(t, src+" ) fun 1", place, api.ErrSyntax)
			expectRefused(t, " # c\n"+src, place+5, api.ErrSyntax)
		} else {
			expectRefused(t, src+" \n# end\n", place+8, api.ErrSyntax)
		}
	}
}

// alphabet has tokens of all kinds, with all keywords and signs.
var alphabet = append(strings.Fields("x X 1 ( ) , = | -> + - * / % < <= == ; _"), keywords...)

// expectFollowing compares Parse with the grammar on every text that is longer than a beginning by one token.
func expectFollowing(t *testing.T, f *follower, prefix string) {
	t.Helper()
	allowed := f.allowed()
	for _, next := range alphabet {
		tokens, _, _ := token.Split(next)
		src := prefix + next + " "
		_, pos, refusal := syntax.Parse(src)
		if !slices.Contains(allowed, symbolOf(tokens[0])) {
			if pos != len(prefix) || refusal != api.ErrSyntax {
				t.Errorf("%q: %d, %d, want %d", src, pos, refusal, len(prefix))
			}
			continue
		}
		longer := follower{f.g, slices.Clone(f.sets)}
		longer.accepts(symbolOf(tokens[0]))
		wantPos, want := len(src), api.ErrSyntax
		if longer.complete() {
			wantPos, want = 0, api.OK
			if refusal == api.ErrLimit {
				want = api.ErrLimit
			}
		}
		if pos != wantPos || refusal != want {
			t.Errorf("%q: %d, %d, want %d, %d", src, pos, refusal, wantPos, want)
		}
	}
}

// TestEveryFollowingToken visits all beginnings of programs of few tokens.
func TestEveryFollowingToken(t *testing.T) {
	g := readGrammar(chapterGrammar)
	var extend func(f *follower, prefix string, more int)
	extend = func(f *follower, prefix string, more int) {
		expectFollowing(t, f, prefix)
		if more == 0 {
			return
		}
		for _, next := range alphabet {
			tokens, _, _ := token.Split(next)
			longer := follower{g, slices.Clone(f.sets)}
			if longer.accepts(symbolOf(tokens[0])) {
				extend(&longer, prefix+next+" ", more-1)
			}
		}
	}
	for _, start := range []string{"", "fun f ( ) =", "data D = C (", "fun f ( ) = match x with C", "fun f ( ) = let"} {
		f, prefix := follow(g), ""
		for _, word := range strings.Fields(start) {
			tokens, _, _ := token.Split(word)
			if !f.accepts(symbolOf(tokens[0])) {
				t.Fatal(start, word)
			}
			prefix += word + " "
		}
		extend(f, prefix, 2)
	}
}

func TestRandomBeginnings(t *testing.T) {
	g := readGrammar(chapterGrammar)
	r := forge{rand.New(rand.NewSource(41))}
	for range 150 {
		f, prefix := follow(g), ""
		for range 40 {
			expectFollowing(t, f, prefix)
			next := alphabet[r.Intn(len(alphabet))]
			tokens, _, _ := token.Split(next)
			for !f.accepts(symbolOf(tokens[0])) {
				next = alphabet[r.Intn(len(alphabet))]
				tokens, _, _ = token.Split(next)
			}
			prefix += next + " "
		}
	}
}

// TestDamagedPrograms changes single tokens of programs.
func TestDamagedPrograms(t *testing.T) {
	g := readGrammar(chapterGrammar)
	r := forge{rand.New(rand.NewSource(42))}
	for range 1500 {
		text := plain.prog(r.prog())
		tokens, _, _ := token.Split(text)
		if len(tokens) > 80 {
			continue
		}
		var words []string
		for _, each := range tokens {
			words = append(words, each.Text)
		}
		at := r.Intn(len(words))
		words = slices.Replace(words, at, min(len(words), at+r.Intn(2)), several(r, 0, 1, func() string { return r.pick(alphabet...) })...)
		src := strings.Join(words, " ")
		wantPos, wrong := firstMisfit(g, src)
		_, pos, refusal := syntax.Parse(src)
		if wrong && (pos != wantPos || refusal != api.ErrSyntax) || !wrong && refusal == api.ErrSyntax {
			t.Errorf("%q: %d, %d, want %d %v", src, pos, refusal, wantPos, wrong)
		}
	}
}

func TestOrderOfErrors(t *testing.T) {
	tooManyParams := "fun f(a, b, c, d, e, g, h) = 1;"
	expectRefused(t, "fun f( = 1; &", 12, api.ErrSyntax)
	expectRefused(t, "fun f( = 01;", 9, api.ErrSyntax)
	expectRefused(t, "fun f( = 1000001;", 9, api.ErrLimit)
	expectRefused(t, tooManyParams+" &", len(tooManyParams)+1, api.ErrSyntax)
	expectRefused(t, tooManyParams+" 1", len(tooManyParams)+1, api.ErrSyntax)
	expectRefused(t, tooManyParams, 0, api.ErrLimit)
	expectRefused(t, " "+tooManyParams, 0, api.ErrLimit)
	expectRefused(t, "fun f() = tick(1001);", 0, api.ErrLimit)
	expectRefused(t, "fun f() = tick(1001)", 20, api.ErrSyntax)
	expectRefused(t, "1"+strings.Repeat(" ", api.MaxText), 0, api.ErrLimit)
	expectRefused(t, " 1"+strings.Repeat(" ", api.MaxText-2), 1, api.ErrSyntax)
	expectParsed(t, "fun f() = 1;"+strings.Repeat(" ", api.MaxText-12), withBody(one))
	expectRefused(t, "fun f() = 1;"+strings.Repeat(" ", api.MaxText-11), 0, api.ErrLimit)
}

// TestDeepTexts has texts that are nested as deep as a text can be.
func TestDeepTexts(t *testing.T) {
	const deep = 8000
	nested := func(open, inner, closing string) string {
		return "fun f() = " + strings.Repeat(open, deep) + inner + strings.Repeat(closing, deep) + ";"
	}
	expectParsed(t, nested("(", "1", ")"), withBody(one))
	expectRefused(t, "fun f() = "+strings.Repeat("(", 16000), 16010, api.ErrSyntax)
	expectRefused(t, "fun f() = "+strings.Repeat("C(", deep), 10+2*deep, api.ErrSyntax)
	expectRefused(t, "fun f() = "+strings.Repeat("(1,", 5000)+")", 10+15000, api.ErrSyntax)
	expectRefused(t, "data D = C"+strings.Repeat("(D", deep), 10+2*deep, api.ErrSyntax)
	expectRefused(t, "data D = C"+strings.Repeat("(", deep), 10+deep, api.ErrSyntax)
	expectRefused(t, "fun f() = x"+strings.Repeat("()", deep)+";", 0, api.ErrLimit)
	expectRefused(t, "fun f() = 1"+strings.Repeat("+1", deep)+";", 0, api.ErrLimit)
	expectRefused(t, "fun f() = "+strings.Repeat("fn()->", 2500)+"1;", 0, api.ErrLimit)
	expectRefused(t, "fun f() = "+strings.Repeat("if 1 then ", 1500), 10+15000, api.ErrSyntax)
	expectRefused(t, "fun f() = g("+strings.Repeat("1,", deep)+"1);", 0, api.ErrLimit)
	expectRefused(t, strings.Repeat("data D=C;", 1500), 0, api.ErrLimit)
}
