package typing_test

import (
	"strings"
	"testing"

	"amortcost/api"
	"amortcost/syntax"
	"amortcost/typing"
)

// Promise 6.1: ErrLimit, and programs with large types

// sized returns an expression whose type has this number of nodes, with lets as its outer part.
func sized(nodes int) string {
	if nodes == 1 {
		return "let t = 1 in t"
	}
	body := "(t, t)"
	inner := (nodes - 1) / 2
	if nodes%2 == 0 {
		body, inner = "ref(t)", nodes-1
	}
	return strings.TrimSuffix(sized(inner), " in t") + " in let t = " + body + " in t"
}

func TestSized(t *testing.T) {
	for _, nodes := range []int{1, 2, 3, 7, 100, 199, 200} {
		p := parse(t, "fun f() = "+sized(nodes)+";")
		if got, diag := typing.Infer(p); diag != (api.Diag{}) || len(flat(got.Schemes[0].Result)) != nodes {
			t.Error(nodes, got.Schemes, diag)
		}
	}
}

// like returns an expression that gives x the type of sized(nodes).
func like(nodes int) string {
	return "(if true then x else " + sized(nodes) + ")"
}

func TestLimit(t *testing.T) {
	for _, c := range []struct {
		src  string
		code api.Errno
		fun  int
	}{
		{"fun f() = " + sized(200) + ";", api.OK, 0},
		{"fun f() = " + sized(201) + ";", api.ErrLimit, 0},
		{"fun f() = let y = " + sized(200) + " in 1;", api.OK, 0},
		{"fun f() = let y = " + sized(201) + " in 1;", api.ErrLimit, 0},
		{"fun f() = let y = " + sized(199) + " in let _ = ref(y) in 1;", api.OK, 0},
		{"fun f() = let y = " + sized(200) + " in let _ = ref(y) in 1;", api.ErrLimit, 0},
		{"fun f(x) = let _ = " + like(200) + " in 1;", api.OK, 0},
		{"fun f(x) = let _ = " + like(201) + " in 1;", api.ErrLimit, 0},
		// Each parameter has a type of its own.
		{"fun f(x, y) = let _ = " + like(200) + " in let _ = if true then x else y in 1;", api.OK, 0},
		// A name has the fn type of the function.
		{"fun f(x) = let _ = " + like(198) + " in 1; fun g() = f;", api.OK, 0},
		{"fun f(x) = let _ = " + like(199) + " in 1; fun g() = f;", api.ErrLimit, 1},
		{"fun f(x) = let _ = " + like(199) + " in 1; fun g() = f(raise(1));", api.ErrLimit, 1},
		{"fun f(x) = let _ = " + like(199) + " in f(x);", api.ErrLimit, 0},
		{"fun f(x) = let _ = " + like(198) + " in 1 + f(x);", api.OK, 0},
		// Instances are larger than schemes.
		{"fun f(x) = x; fun g() = let t = " + sized(99) + " in f(t);", api.OK, 0},
		{"fun f(x) = x; fun g() = let t = " + sized(100) + " in f(t);", api.ErrLimit, 1},
		{"fun f(x) = 1; fun g() = let t = " + sized(198) + " in f(t);", api.OK, 0},
		{"fun f(x) = 1; fun g() = let t = " + sized(199) + " in f(t);", api.ErrLimit, 1},
		// The types of names that are not used are no types of notes.
		{"data T(a) = A(a, (a, a)); fun f(x) = match x with A(y, z) -> let _ = if true then y else " + sized(100) + " in 1 end;", api.OK, 0},
		{"data T(a) = A(a, (a, a)); fun f(x) = match x with A(y, z) -> let _ = if true then y else " + sized(100) + " in let _ = z in 1 end;", api.ErrLimit, 0},
		{"data T(a) = A(a, (a, a)); fun f(x) = match x with A(y, _) -> let _ = if true then y else " + sized(199) + " in 1 end;", api.OK, 0},
		{"data T(a) = A(a, (a, a)); fun f(x) = match x with A(y, _) -> let _ = if true then y else " + sized(200) + " in 1 end;", api.ErrLimit, 0},
		// The least function of the group in whose scheme or notes there is such a type.
		{"fun f() = 1 + g(); fun g() = let _ = (f(), " + sized(198) + ") in 1;", api.OK, 0},
		{"fun f() = 1 + g(); fun g() = let _ = (f(), " + sized(199) + ") in 1;", api.ErrLimit, 1},
		{"fun f(x) = 1 + g(); fun g() = f(" + sized(201) + ");", api.ErrLimit, 0},
		{"fun f(x) = 1 + g(); fun g() = f(" + sized(199) + ");", api.ErrLimit, 1},
		{"fun f(x) = 1 + g(); fun g() = f(" + sized(198) + ");", api.OK, 0},
		{"fun f() = (g(), 1); fun g() = if true then raise(let _ = f() in 1) else " + sized(198) + ";", api.ErrLimit, 1},
		{"fun f() = 1 + g(); fun g() = 1 + h(); fun h() = let _ = (f(), " + sized(199) + ") in 1;", api.ErrLimit, 2},
		{"fun f() = 1 + g(); fun g() = let _ = (h(), " + sized(199) + ") in 1; fun h() = let _ = (f(), " + sized(199) + ") in 1;", api.ErrLimit, 1},
		{"fun e() = 1; fun f() = 1; fun g() = 1 + i(); fun h() = 1 + true; fun i() = let _ = (g(), " + sized(199) + ") in 1;", api.ErrLimit, 4},
		// Within a group ErrType is first; otherwise the first group counts.
		{"fun f() = (" + sized(201) + ", 1 + true);", api.ErrType, 0},
		{"fun f() = (g(), 1 + true); fun g() = let _ = f in " + sized(201) + ";", api.ErrType, 0},
		{"fun f() = let _ = g() in " + sized(201) + "; fun g() = 1 + (let _ = f in true);", api.ErrType, 0},
		{"fun f() = 1 + true; fun g() = " + sized(201) + ";", api.ErrType, 0},
		{"fun f() = " + sized(201) + "; fun g() = 1 + true;", api.ErrLimit, 0},
		{"fun f() = (g(), 1 + true); fun g() = " + sized(201) + ";", api.ErrLimit, 1},
		{"fun f() = (g(), " + sized(201) + "); fun g() = 1 + true;", api.ErrType, 1},
		{"fun f() = " + sized(201) + "; fun g() = " + sized(201) + ";", api.ErrLimit, 0},
		{"fun f() = (g(), " + sized(201) + "); fun g() = " + sized(201) + ";", api.ErrLimit, 1},
	} {
		got, diag := typing.Infer(parse(t, c.src))
		if diag != (api.Diag{Code: c.code, Fun: c.fun}) || (c.code != api.OK && len(got.Schemes)+len(got.Notes) > 0) {
			t.Errorf("%s: %v", c.src, diag)
		}
		expectDefined(t, parse(t, c.src))
	}
}

// TestManyVariables has schemes with more variables than Match and Format know.
func TestManyVariables(t *testing.T) {
	var params []string
	for i := range 6 {
		text := "x" + string(rune('a'+i))
		for range 5 {
			text = "(" + text + ", raise(2))"
		}
		params = append(params, text)
	}
	expectDefined(t, parse(t, "fun f(xa, xb, xc, xd, xe, xf) = ("+strings.Join(params, ", ")+"); fun g() = f(1, 2, 3, 4, 5, 6);"))
	// Five parameters with 39 fresh variables each.
	body := "1"
	for _, name := range []string{"a", "b", "c", "d", "e"} {
		six := "(" + strings.Repeat("raise(1), ", 5) + "raise(1))"
		body = "let _ = if true then " + name + " else (" + strings.Repeat(six+", ", 5) + six + ") in " + body
	}
	p := parse(t, "fun f(a, b, c, d, e) = "+body+";")
	got, diag := typing.Infer(p)
	if diag != (api.Diag{}) || got.Schemes[0].Vars != 180 {
		t.Error(got.Schemes, diag)
	}
	expectDefined(t, p)
}

// doubling returns 37 lets, of which each has a type with twice as many nodes as the one before.
func doubling(first, body string) string {
	return "let x = " + first + " in " + strings.Repeat("let x = (x, x) in ", 36) + body
}

// TestEnormousTypes has types that no memory can hold without sharing.
func TestEnormousTypes(t *testing.T) {
	for src, want := range map[string]api.Diag{
		"fun f(x) = x; fun g() = f" + strings.Repeat("(f)", 39) + ";":                                                                                  {Code: api.ErrLimit, Fun: 1},
		"fun f() = " + doubling("1", "x") + ";":                                                                                                        {Code: api.ErrLimit},
		"fun f() = " + doubling("raise(1)", "1") + ";":                                                                                                 {Code: api.ErrLimit},
		"fun f() = " + doubling("1", "x + 1") + ";":                                                                                                    {Code: api.ErrType},
		"fun f() = " + doubling("1", "write(ref(x), g(1))") + "; fun g(y) = " + doubling("y", "x") + ";":                                               {Code: api.ErrLimit, Fun: 1},
		"fun f() = " + doubling("1", "write(ref(x), g(1))") + "; fun g(y) = let _ = f in " + doubling("y", "x") + ";":                                  {Code: api.ErrLimit},
		"fun f() = " + doubling("1", "write(ref(x), g(()))") + "; fun g(y) = let _ = f in " + doubling("y", "x") + ";":                                 {Code: api.ErrType},
		"fun f(y) = " + doubling("y", "f(x)") + ";":                                                                                                    {Code: api.ErrType},
		"fun f(y) = " + doubling("y", "write(ref(x), y)") + ";":                                                                                        {Code: api.ErrType},
		"fun f(y) = " + doubling("fn(z) -> z", "g(x, y)") + "; fun g(y, z) = let _ = f(z) in " + doubling("fn(z) -> z", "if true then x else y") + ";": {Code: api.ErrLimit},
	} {
		if _, diag := typing.Infer(parse(t, src)); diag != want {
			t.Errorf("%s: %v, want %v", src, diag, want)
		}
	}
}

// TestEnormousDeclarations has constructors with a hundred thousand nodes, which are matched often.
func TestEnormousDeclarations(t *testing.T) {
	arg := api.TypeExpr{Kind: api.TVar, Name: "a"}
	for range 6 {
		arg = api.TypeExpr{Kind: api.TTuple, Args: []api.TypeExpr{arg, arg, arg, arg, arg, arg}}
	}
	data := api.DataExpr{Name: "T", Vars: []string{"a", "b"}, Cons: []api.ConExpr{{Name: "A", Args: []api.TypeExpr{arg, {Kind: api.TVar, Name: "b"}}}}}
	for body, want := range map[string]api.Errno{
		"1": api.OK,
		strings.Repeat("let _ = match x with A(y, z) -> z end in ", 30) + "1":                                                    api.OK,
		"match x with A(y, z) -> let _ = y in 1 end":                                                                             api.ErrLimit,
		"match x with A(y, z) -> y end":                                                                                          api.ErrLimit,
		"match x with A(y, z) -> y + 1 end":                                                                                      api.ErrType,
		"match x with A(y, z) -> if true then y else z end":                                                                      api.ErrLimit,
		"match x with A(y, z) -> let _ = write(ref(z), y) in match read(ref(x)) with A(z, _) -> write(ref(y), z) end end":        api.ErrLimit,
		"match x with A(y, z) -> let (y, _, _, _, _, _) = y in write(ref(z), y) end":                                             api.ErrLimit,
		"match x with A(y, z) -> let _ = write(ref(z), y) in match g(x) with A(_, z) -> if true then z else 1 end end":           api.ErrType,
		"match x with A(y, z) -> match z with A(u, v) -> let _ = write(ref(y), u) in 1 end end":                                  api.ErrLimit,
		"match x with A(y, z) -> match z with A(u, v) -> let _ = if true then y else u in match y with A(_, _) -> 1 end end end": api.ErrType,
		"A(1, 2)":        api.ErrType,
		"A(raise(1), 2)": api.ErrLimit,
		"let y = raise(1) in let _ = A(y, 2) in let _ = A(y, ()) in 1":                                                                                 api.ErrLimit,
		"let y = raise(1) in let z = raise(2) in let _ = match x with A(u, v) -> if true then v else z end in let _ = A(y, y) in let _ = A(z, y) in 1": api.ErrLimit,
	} {
		p := parse(t, "data T(a, b) = A(a, b); fun f(x) = "+body+"; fun g(x) = x;")
		p.Data[0] = data
		want := api.Diag{Code: want}
		if _, diag := typing.Infer(p); diag != want {
			t.Errorf("%s: %v, want %v", body, diag, want)
		}
	}
}

// TestLargestPrograms reaches the limits of valid programs: levels, nodes, functions, arguments.
func TestLargestPrograms(t *testing.T) {
	var funs strings.Builder
	for f := range api.MaxFuns {
		next := string(rune('a' + (f+1)%api.MaxFuns))
		funs.WriteString("fun f_" + string(rune('a'+f)) + "(a, b, c, d, e, f) = f_" + next + "(a, b, c, d, e, f_" + next + "(f, e, d, c, b, a));\n")
	}
	for _, src := range []string{
		"fun f() = " + strings.Repeat("fn(x) -> ", 39) + "x;",
		"fun f(x) = " + strings.Repeat("ref(", 39) + "x" + strings.Repeat(")", 39) + ";",
		"fun f(x) = " + strings.Repeat("read(", 39) + "x" + strings.Repeat(")", 39) + ";",
		"fun f(x) = " + strings.Repeat("f(", 39) + "x" + strings.Repeat(")", 39) + ";",
		"fun f(x) = x; fun g() = " + strings.Repeat("f(", 39) + "1" + strings.Repeat(")", 39) + ";",
		"fun f(x, y, z, u, v, w) = (w, v, u, z, y, x); fun g(x) = let (a, b, c, d, e, f) = x in f(a, b, c, d, e, 1);",
		funs.String(),
	} {
		expectDefined(t, parse(t, src))
	}
	uses := []api.Expr{name("x"), name("f"), name("g"), name("x"), {Op: api.EApp, Kids: []api.Expr{name("f"), name("x")}}, {Op: api.EFn, Names: []string{"x"}, Kids: []api.Expr{name("x")}}}
	body := api.Expr{Op: api.EUnit}
	for range 37 {
		body = api.Expr{Op: api.ELet, Kids: []api.Expr{{Op: api.ETuple, Kids: uses}, body}}
	}
	wide := api.Prog{Funs: []api.FunExpr{{Name: "f", Params: []string{"x"}, Body: body}, {Name: "g", Body: api.Expr{Op: api.EApp, Kids: []api.Expr{name("f"), name("f")}}}}}
	if nodes := syntax.Nodes(body); !syntax.Valid(wide) || nodes < 400 {
		t.Error("the program is not as large as it should be: ", nodes)
	}
	expectDefined(t, wide)
}
