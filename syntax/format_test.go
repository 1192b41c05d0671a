package syntax_test

import (
	"math/rand"
	"reflect"
	"strings"
	"testing"

	"amortcost/api"
	"amortcost/syntax"
)

func expectText(t *testing.T, p api.Prog, want string) {
	t.Helper()
	if got := syntax.Format(p); got != want {
		t.Errorf("got %q, want %q", got, want)
	}
}

// Promise 4.4

func TestExamples(t *testing.T) {
	for src, want := range map[string]string{
		"fun f(x)=if x<=0 then() else f(x-1);":       "fun f(x) = if x <= 0 then () else f(x - 1);\n",
		"fun f(x) = (x + 1) * -2 - (x - x);":         "fun f(x) = (x + 1) * -2 - (x - x);\n",
		"fun f(g) = (fn(x) -> x)(g)(1);":             "fun f(g) = (fn(x) -> x)(g)(1);\n",
		"fun f()=1;data L(a)=N|C(a,L(a));":           "data L(a) = N | C(a, L(a));\nfun f() = 1;\n",
		"data D(a, b) = C(int, D(a, b)) | E;":        "data D(a, b) = C(int, D(a, b)) | E;\n",
		"fun f(x, y) = E;":                           "fun f(x, y) = E;\n",
		"fun g()=2;fun f ( x,y )=((E)) # c\n; # c":   "fun g() = 2;\nfun f(x, y) = E;\n",
		"data A=A;fun b()=A;data C=C;fun d()=(C)();": "data A = A;\ndata C = C;\nfun b() = A;\nfun d() = (C)();\n",
		"": "",
	} {
		p, _, refusal := syntax.Parse(src)
		if refusal != api.OK {
			t.Errorf("%q: %d", src, refusal)
		}
		expectText(t, p, want)
	}
}

func TestFormatForms(t *testing.T) {
	for _, c := range append(exprCases(), binaryCases()...) {
		expectText(t, withBody(c.tree), "fun f() = "+c.text+";\n")
		if got := syntax.FormatExpr(c.tree); got != c.text {
			t.Errorf("got %q, want %q", got, c.text)
		}
	}
	for _, c := range typeCases() {
		expectText(t, withType(c.tree), "data D = C("+c.text+");\n")
	}
}

// kinds has an expression of each kind.
func kinds() []api.Expr {
	list := []api.Expr{
		unit, number(api.EBool, 1), one, number(api.EInt, -1), varX, plainly(api.ETuple, one, two), nothing, named(api.ECons, "C", one), named(api.ELet, "x", one, two), binding(api.EUntuple, []string{"x", ""}, one, two), plainly(api.EIf, one, two, three),
		choice(one, api.Alt{Con: "N", Body: two}), binding(api.EFn, nil, one), plainly(api.EApp, varG), number(api.EPrim, api.PRead, varX), number(api.ETick, -1), plainly(api.ERaise, one), named(api.ETry, "x", one, two),
	}
	for op := range places {
		list = append(list, number(api.EBin, op, varX, varY))
	}
	return list
}

// TestParenthesesInEveryPlace has every kind of expression in every place, and within two others.
func TestParenthesesInEveryPlace(t *testing.T) {
	for _, inner := range kinds() {
		for _, wrap := range wraps() {
			e := wrap(inner)
			text := plain.at(0, e)
			if got := syntax.FormatExpr(e); got != text {
				t.Errorf("got %q, want %q", got, text)
			}
			expectParsed(t, "fun f() = "+text+";", withBody(e))
			for _, outer := range wraps() {
				twice := outer(e)
				if got, want := syntax.FormatExpr(twice), plain.at(0, twice); got != want {
					t.Errorf("got %q, want %q", got, want)
				}
			}
		}
	}
}

// TestParenthesesByHand has the places of the chapter without its tables.
func TestParenthesesByHand(t *testing.T) {
	inner := map[int]api.Expr{0: named(api.ELet, "x", one, two), 1: number(api.EBin, api.OpLe, one, two), 2: number(api.EBin, api.OpSub, one, two), 3: number(api.EBin, api.OpMod, one, two), 4: plainly(api.EApp, varG, one), 5: number(api.EInt, -7)}
	texts := map[int]string{0: "let x = 1 in 2", 1: "1 <= 2", 2: "1 - 2", 3: "1 % 2", 4: "g(1)", 5: "-7"}
	for level, e := range inner {
		in := func(place int) string {
			if level < place {
				return "(" + texts[level] + ")"
			}
			return texts[level]
		}
		for want, tree := range map[string]api.Expr{
			in(2) + " < x":                                      number(api.EBin, api.OpLt, e, varX),
			"x < " + in(2):                                      number(api.EBin, api.OpLt, varX, e),
			in(2) + " <= " + in(2):                              number(api.EBin, api.OpLe, e, e),
			in(2) + " == " + in(2):                              number(api.EBin, api.OpEq, e, e),
			in(2) + " + " + in(3):                               number(api.EBin, api.OpAdd, e, e),
			in(2) + " - " + in(3):                               number(api.EBin, api.OpSub, e, e),
			in(3) + " * " + in(4):                               number(api.EBin, api.OpMul, e, e),
			in(3) + " / " + in(4):                               number(api.EBin, api.OpDiv, e, e),
			in(3) + " % " + in(4):                               number(api.EBin, api.OpMod, e, e),
			in(4) + "(" + in(0) + ")":                           plainly(api.EApp, e, e),
			in(4) + "()":                                        plainly(api.EApp, e),
			"(" + in(0) + ", " + in(0) + ")":                    plainly(api.ETuple, e, e),
			"C(" + in(0) + ", " + in(0) + ")":                   named(api.ECons, "C", e, e),
			"set(" + in(0) + ", " + in(0) + ", 1)":              number(api.EPrim, api.PSet, e, e, one),
			"raise(" + in(0) + ")":                              plainly(api.ERaise, e),
			"let _ = " + in(0) + " in " + in(0):                 named(api.ELet, "", e, e),
			"let (x, _) = " + in(0) + " in " + in(0):            binding(api.EUntuple, []string{"x", ""}, e, e),
			"fn(x) -> " + in(0):                                 binding(api.EFn, []string{"x"}, e),
			"try " + in(0) + " catch _ -> " + in(0) + " end":    named(api.ETry, "", e, e),
			"if " + in(0) + " then " + in(0) + " else " + in(0): plainly(api.EIf, e, e, e),
			"match " + in(0) + " with N -> " + in(0) + " | C(_) -> " + in(0) + " end": choice(e, api.Alt{Con: "N", Body: e}, api.Alt{Con: "C", Vars: []string{""}, Body: e}),
		} {
			if got := syntax.FormatExpr(tree); got != want {
				t.Errorf("got %q, want %q", got, want)
			}
		}
	}
}

// TestParenthesesAreNeeded leaves out single pairs of parentheses, which changes the tree.
func TestParenthesesAreNeeded(t *testing.T) {
	r := forge{rand.New(rand.NewSource(44))}
	for range 300 {
		e := r.expr(4)
		if height(e) > 4 || len(preorder(e)) > 100 {
			continue
		}
		text := syntax.FormatExpr(e)
		var open []int
		for i := range text {
			switch text[i] {
			case '(':
				open = append(open, i)
			case ')':
				begin := open[len(open)-1]
				open = open[:len(open)-1]
				less := "fun f() = " + text[:begin] + " " + text[begin+1:i] + " " + text[i+1:] + ";"
				if p, _, refusal := syntax.Parse(less); refusal == api.OK && same(p, withBody(e)) {
					t.Errorf("%q: the parentheses at %d are superfluous", text, begin)
				}
			}
		}
	}
}

func TestFormatRandomPrograms(t *testing.T) {
	r := forge{rand.New(rand.NewSource(45))}
	for range 3000 {
		p := r.prog()
		expectValid(t, p, len(syntaxNodes(p)) <= api.MaxNodes)
		e := r.expr(4)
		if got := syntax.FormatExpr(e); got != plain.at(0, e) {
			t.Errorf("got %q, want %q", got, plain.at(0, e))
		}
	}
}

func TestFormatRefuses(t *testing.T) {
	bad := number(api.EInt, api.MaxLiteral+1)
	expectText(t, api.Prog{Funs: []api.FunExpr{{Name: "f", Body: one}, {Name: "g", Body: bad}}}, "")
	expectText(t, api.Prog{Funs: []api.FunExpr{{Name: "f", Body: one}, {Name: "G", Body: one}}}, "")
	expectText(t, api.Prog{Data: []api.DataExpr{{Name: "D"}}, Funs: []api.FunExpr{{Name: "f", Body: one}}}, "")
	for _, e := range []api.Expr{bad, {}, plainly(api.ERaise, bad), bushy(601), plainly(api.EApp), choice(one)} {
		if text := syntax.FormatExpr(e); text != "" {
			t.Errorf("%v: %q", e, text)
		}
	}
	if text := syntax.FormatExpr(bushy(600)); text != plain.at(0, bushy(600)) {
		t.Errorf("%q", text)
	}
}

// TestLongTexts has a valid program whose text no Parse accepts.
func TestLongTexts(t *testing.T) {
	long := strings.Repeat("n", 24)
	body := choice(named(api.EVar, long), copies(500, api.Alt{Con: strings.Repeat("N", 24), Vars: copies(6, long), Body: one})...)
	expectValid(t, withBody(body), true)
	text := syntax.Format(withBody(body))
	if len(text) <= api.MaxText {
		t.Error(len(text))
	}
	expectRefused(t, text, 0, api.ErrLimit)
}

// Promise 4.3

func TestNodes(t *testing.T) {
	for _, c := range append(exprCases(), binaryCases()...) {
		if got, want := syntax.Nodes(c.tree), len(preorder(c.tree)); got != want {
			t.Errorf("%s: %d, want %d", c.text, got, want)
		}
	}
	for want, e := range map[int]api.Expr{1: {}, 2: plainly(api.ERaise, one), 4: plainly(api.EIf, one, two, three), 5: choice(one, api.Alt{Body: two}, api.Alt{Body: plainly(0, three)}), 700: bushy(700)} {
		if got := syntax.Nodes(e); got != want {
			t.Errorf("%v: %d", e, got)
		}
	}
	// Nodes counts what a tree has, whatever its kind may have.
	r := forge{rand.New(rand.NewSource(46))}
	for range 1000 {
		p := withBody(r.expr(4))
		for range r.Intn(4) {
			r.change(&p)
		}
		for _, f := range p.Funs {
			f.Body.Alts = append(f.Body.Alts, api.Alt{Body: r.expr(2)})
			f.Body.Kids = append(f.Body.Kids, r.expr(2))
			if got, want := syntax.Nodes(f.Body), len(preorder(f.Body)); got != want {
				t.Errorf("%v: %d, want %d", f.Body, got, want)
			}
		}
	}
}

func TestEqual(t *testing.T) {
	r := forge{rand.New(rand.NewSource(47))}
	equal := 0
	for range 4000 {
		p := r.prog()
		if r.Intn(2) == 0 {
			r.change(&p)
		}
		q := copyOf(p)
		if !syntax.Equal(p, q) || !syntax.Equal(q, p) || !syntax.Equal(p, p) {
			t.Errorf("%v is not equal to its copy", p)
		}
		r.change(&q)
		want := same(p, q)
		if want {
			equal++
		}
		if got := syntax.Equal(p, q); got != want || syntax.Equal(q, p) != want {
			t.Errorf("%v and %v: %v", p, q, got)
		}
	}
	if equal > 1000 {
		t.Errorf("%d changes changed nothing", equal)
	}
}

// TestEqualLooksAtEveryField changes each field of a tree in which every slice has an element.
func TestEqualLooksAtEveryField(t *testing.T) {
	full := func() api.Prog {
		leaf := api.Expr{Op: 1, Name: "a", Num: 1, Names: []string{"a", "b"}}
		e := api.Expr{Op: 2, Name: "b", Num: 2, Names: []string{"c", "d"}, Kids: []api.Expr{leaf, leaf}, Alts: []api.Alt{{Con: "e", Vars: []string{"f", "g"}, Body: leaf}, {Con: "h", Vars: []string{"i"}, Body: leaf}}}
		args := []api.TypeExpr{{Kind: 1, Name: "j"}, {Kind: 2, Name: "k", Args: []api.TypeExpr{{Kind: 3, Name: "l"}}}}
		return api.Prog{Data: []api.DataExpr{{Name: "m", Vars: []string{"n"}, Cons: []api.ConExpr{{Name: "o", Args: args}, {Name: "p", Args: args}}}}, Funs: []api.FunExpr{{Name: "q", Params: []string{"r", "s"}, Body: e}, {Name: "t", Body: leaf}}}
	}
	original := full()
	count := len(fields(reflect.ValueOf(&original).Elem()))
	for i := range count {
		changed := copyOf(original)
		switch v := fields(reflect.ValueOf(&changed).Elem())[i]; v.Kind() {
		case reflect.String:
			v.SetString(v.String() + "x")
		case reflect.Slice:
			v.Set(reflect.Append(v, reflect.Zero(v.Type().Elem())))
		default:
			v.SetInt(v.Int() + 1<<32)
		}
		if syntax.Equal(original, changed) || syntax.Equal(changed, original) {
			t.Errorf("field %d: %v", i, changed)
		}
	}
	if count < 60 || !syntax.Equal(original, full()) {
		t.Error(count)
	}
}

// Rules R1, R4 and R5

// TestDeepTrees has trees of 2^16 levels.
func TestDeepTrees(t *testing.T) {
	const deep = 1 << 16
	kid := nested(deep, varX, func(e api.Expr) api.Expr { return plainly(api.ERaise, e) })
	alt := nested(deep, varX, func(e api.Expr) api.Expr { return choice(one, api.Alt{Con: "N", Body: e}) })
	other := nested(deep, varY, func(e api.Expr) api.Expr { return plainly(api.ERaise, e) })
	if syntax.Nodes(kid) != deep || syntax.Nodes(alt) != 2*deep-1 {
		t.Error(syntax.Nodes(kid), syntax.Nodes(alt))
	}
	if !syntax.Equal(withBody(kid), withBody(kid)) || syntax.Equal(withBody(kid), withBody(other)) || !syntax.Equal(withBody(alt), withBody(alt)) {
		t.Error("deep trees are not compared")
	}
	arg := api.TypeExpr{Kind: api.TInt}
	for range deep {
		arg = api.TypeExpr{Kind: api.TArray, Args: []api.TypeExpr{arg}}
	}
	for _, p := range []api.Prog{withBody(kid), withBody(alt), withType(arg)} {
		if syntax.Valid(p) || syntax.Format(p) != "" || !syntax.Equal(p, p) {
			t.Error("a deep tree is valid")
		}
	}
	if syntax.FormatExpr(kid) != "" || syntax.FormatExpr(alt) != "" {
		t.Error("a deep tree has a text")
	}
}

func TestEmptyAndNilSlices(t *testing.T) {
	var fill func(v reflect.Value)
	fill = func(v reflect.Value) {
		for _, each := range fields(v) {
			if each.Kind() == reflect.Slice && each.IsNil() {
				each.Set(reflect.MakeSlice(each.Type(), 0, 3))
			}
		}
	}
	r := forge{rand.New(rand.NewSource(48))}
	for range 300 {
		p := copyOf(r.prog())
		q := copyOf(p)
		fill(reflect.ValueOf(&q).Elem())
		if !syntax.Equal(p, q) || !syntax.Equal(q, p) || syntax.Valid(p) != syntax.Valid(q) || syntax.Format(p) != syntax.Format(q) {
			t.Errorf("%v and %v", p, q)
		}
	}
}

func TestArgumentsStayAsTheyAre(t *testing.T) {
	r := forge{rand.New(rand.NewSource(49))}
	for range 300 {
		p := r.prog()
		if r.Intn(2) == 0 {
			r.change(&p)
		}
		before := copyOf(p)
		syntax.Valid(p)
		syntax.Format(p)
		syntax.Equal(p, before)
		for _, f := range p.Funs {
			syntax.FormatExpr(f.Body)
			syntax.Nodes(f.Body)
		}
		if !same(p, before) {
			t.Errorf("%v became %v", before, p)
		}
	}
}

func TestResultsAreIndependent(t *testing.T) {
	const src = "data L(a) = N | C(a, L(a)); fun f(x, y) = match x with N -> fn(z) -> (z, y) | C(_, r) -> let (a, b) = r in f(a, b)(1) + g() end; fun g() = get(new(1, 2), 0);"
	first, _, _ := syntax.Parse(src)
	second, _, _ := syntax.Parse(src)
	want := copyOf(first)
	for _, v := range fields(reflect.ValueOf(&first).Elem()) {
		switch v.Kind() {
		case reflect.String:
			v.SetString("changed")
		case reflect.Slice:
			// An append within the capacity must not reach another slice.
			extended := v.Slice3(0, v.Len(), v.Cap()).Slice(0, v.Cap())
			for i := v.Len(); i < v.Cap(); i++ {
				extended.Index(i).SetZero()
			}
		default:
			v.SetInt(-9)
		}
	}
	third, _, _ := syntax.Parse(src)
	if !same(second, want) || !same(third, want) {
		t.Errorf("%v, %v, want %v", second, third, want)
	}
}
