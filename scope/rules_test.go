package scope_test

import (
	"reflect"
	"strings"
	"testing"

	"amortcost/api"
	"amortcost/scope"
)

// Rules R1, R4 and R5, and the limits

// TestDeepTrees has trees of 2^16 levels, which no text has.
func TestDeepTrees(t *testing.T) {
	const deep = 1 << 16
	body, arg, made := api.Expr{Op: api.EInt}, api.TypeExpr{Kind: api.TInt}, api.Type{Kind: api.TInt}
	for range deep {
		body = api.Expr{Op: api.ERaise, Kids: []api.Expr{body}}
		arg = api.TypeExpr{Kind: api.TArray, Args: []api.TypeExpr{arg}}
		made = api.Type{Kind: api.TData, Args: []api.Type{made}}
	}
	for _, p := range []api.Prog{
		{Funs: []api.FunExpr{{Name: "f", Body: body}}},
		{Data: []api.DataExpr{{Name: "T", Cons: []api.ConExpr{{Name: "A", Args: []api.TypeExpr{arg}}}}}},
	} {
		if diag := scope.Check(p); diag != (api.Diag{Code: api.ErrInvalid, Fun: -1}) {
			t.Error(diag)
		}
		if data, diag := scope.Data(p); diag != (api.Diag{Code: api.ErrInvalid, Fun: -1}) || len(data) > 0 {
			t.Error(diag)
		}
		if calls, groups := scope.Calls(p), scope.Groups(p); len(calls) > 0 || len(groups) > 0 {
			t.Error("a tree that is not valid has lists")
		}
	}
	data := []api.Data{{Vars: 1, Cons: []api.Con{{Name: "A", Args: []api.Type{made}}}}}
	if list := scope.Recursive(data, 0, 0); !same(list, []bool{false}) {
		t.Error(list)
	}
	if d, c, ok := scope.Constructor(data, "B"); d != 0 || c != 0 || ok {
		t.Error(d, c, ok)
	}
}

// TestLargestPrograms reaches the limits of a valid program: levels, nodes, functions, declarations, constructors, arguments.
func TestLargestPrograms(t *testing.T) {
	for _, src := range []string{
		"fun f() = " + strings.Repeat("fn(x) -> ", 39) + "x;",
		"fun f(x) = " + strings.Repeat("fn(y) -> ", 39) + "x;",
		"fun f() = " + strings.Repeat("let x = 1 in ", 39) + "x;",
		"fun f() = " + strings.Repeat("ref(", 39) + "f" + strings.Repeat(")", 39) + ";",
		"fun f(x) = " + strings.Repeat("f(", 39) + "x" + strings.Repeat(")", 39) + ";",
		"fun f() = " + strings.Repeat("ref(", 39) + "x" + strings.Repeat(")", 39) + ";",
		"data T(a) = A(" + strings.Repeat("array(", 39) + "a" + strings.Repeat(")", 39) + ");",
		"data T(a) = A(" + strings.Repeat("array(", 39) + "b" + strings.Repeat(")", 39) + ");",
		"data S(a) = S; data T(a) = A(" + strings.Repeat("S(", 39) + "a" + strings.Repeat(")", 39) + ");",
	} {
		expectDefined(t, parse(t, src))
	}
	var data, funs strings.Builder
	for d := range api.MaxData {
		data.WriteString("data T" + string(rune('A'+d)) + "(a, b, c, d, e, f) = ")
		for c := range api.MaxCons {
			if c > 0 {
				data.WriteString(" | ")
			}
			data.WriteString("C" + string(rune('A'+d)) + string(rune('a'+c)) + "(a, b, c, d, TA(a, b, c, d, e, f), T" + string(rune('A'+d)) + "(a, b, c, d, e, f))")
		}
		data.WriteString(";\n")
	}
	for f := range api.MaxFuns {
		next := string(rune('a' + (f+1)%api.MaxFuns))
		funs.WriteString("fun f_" + string(rune('a'+f)) + "(a, b, c, d, e, f) = f_" + next + "(a, b, c, d, e, f_" + next + "(f, e, d, c, b, a));\n")
	}
	for _, src := range []string{data.String(), funs.String(), data.String() + funs.String()} {
		if list := expectDefined(t, parse(t, src)); len(list) > 0 {
			t.Error(list)
		}
	}
	// Twins at the far ends of the lists.
	expectDefined(t, parse(t, strings.Replace(data.String(), "CLh", "CAa", 1)))
	expectDefined(t, parse(t, strings.Replace(data.String(), "data TL", "data TA", 1)))
	expectDefined(t, parse(t, strings.Replace(funs.String(), "fun f_x", "fun f_a", 1)))
}

func TestEmptyAndNilSlices(t *testing.T) {
	r := newForge(56)
	for range 300 {
		p := r.program()
		r.change(&p)
		q := copyOf(p)
		for _, v := range fields(reflect.ValueOf(&q).Elem()) {
			if v.Kind() == reflect.Slice && v.IsNil() {
				v.Set(reflect.MakeSlice(v.Type(), 0, 3))
			}
		}
		first, firstDiag := scope.Data(p)
		second, secondDiag := scope.Data(q)
		if !same(first, second) || firstDiag != secondDiag || scope.Check(p) != scope.Check(q) || !same(scope.Calls(p), scope.Calls(q)) || !same(scope.Groups(p), scope.Groups(q)) {
			t.Errorf("%v", p)
		}
	}
	data := []api.Data{{Cons: []api.Con{{Name: "A", Args: []api.Type{{Kind: api.TData, Args: []api.Type{}}, {Kind: api.TData}}}, {Args: []api.Type{}}}}}
	if got := scope.Recursive(data, 0, 0); !same(got, []bool{true, true}) {
		t.Error(got)
	}
	if got := scope.Recursive(data, 0, 1); len(got) > 0 {
		t.Error(got)
	}
}

func TestArgumentsStayAsTheyAre(t *testing.T) {
	r := newForge(57)
	for range 300 {
		p := r.program()
		if r.Intn(2) == 0 {
			r.change(&p)
		}
		before := copyOf(p)
		data, _ := scope.Data(p)
		scope.Check(p)
		scope.Calls(p)
		scope.Groups(p)
		if !same(p, before) {
			t.Errorf("%v became %v", before, p)
		}
		dataBefore := copyOf(data)
		for d := range data {
			scope.Constructor(data, "A")
			scope.Recursive(data, d, 0)
		}
		if !same(data, dataBefore) {
			t.Errorf("%v became %v", dataBefore, data)
		}
	}
}

// scramble overwrites a result everywhere, also behind the ends of its slices.
func scramble(v reflect.Value) {
	for _, each := range fields(v) {
		switch each.Kind() {
		case reflect.String:
			each.SetString("changed")
		case reflect.Bool:
			each.SetBool(!each.Bool())
		case reflect.Slice:
			extended := each.Slice(0, each.Cap())
			for i := each.Len(); i < each.Cap(); i++ {
				extended.Index(i).SetZero()
			}
		default:
			each.SetInt(-9)
		}
	}
}

// expectFresh overwrites a result and expects the same one again, and the arguments as they were.
func expectFresh[A, B any](t *testing.T, arg A, call func(A) B) {
	t.Helper()
	before := copyOf(arg)
	first := call(arg)
	want := copyOf(first)
	second := call(arg)
	scramble(reflect.ValueOf(&first).Elem())
	third := call(arg)
	if !same(second, want) || !same(third, want) || !same(arg, before) {
		t.Errorf("%v, %v, want %v", second, third, want)
	}
}

// expectSeparate extends each slice of a result and expects that no other one changes.
func expectSeparate[T any](t *testing.T, result T) {
	t.Helper()
	want := copyOf(result)
	for _, v := range fields(reflect.ValueOf(&result).Elem()) {
		if v.Kind() == reflect.Slice && v.Cap() > v.Len() {
			extended := v.Slice(0, v.Cap())
			extended.Index(v.Len()).SetZero()
		}
	}
	if !same(result, want) {
		t.Errorf("%v became %v", want, result)
	}
}

func TestResultsAreIndependent(t *testing.T) {
	r := newForge(58)
	for range 200 {
		p := r.program()
		dataOf := func(p api.Prog) []api.Data {
			data, _ := scope.Data(p)
			return data
		}
		expectFresh(t, p, dataOf)
		expectFresh(t, p, scope.Calls)
		expectFresh(t, p, scope.Groups)
		expectSeparate(t, dataOf(p))
		expectSeparate(t, scope.Calls(p))
		expectSeparate(t, scope.Groups(p))
		data := dataOf(p)
		for d := range data {
			for c := range data[d].Cons {
				expectFresh(t, data, func(data []api.Data) []bool { return scope.Recursive(data, d, c) })
			}
		}
	}
}

// TestSharedKids has one expression in several places, whose memory is the same.
func TestSharedKids(t *testing.T) {
	use := api.Expr{Op: api.EVar, Name: "x"}
	list := []api.Expr{use, use}
	pair := api.Expr{Op: api.ETuple, Kids: list}
	body := api.Expr{Op: api.EUntuple, Names: []string{"x", ""}, Kids: []api.Expr{{Op: api.EFn, Names: []string{"x"}, Kids: []api.Expr{pair}}, pair}}
	expectDefined(t, api.Prog{Funs: []api.FunExpr{{Name: "f", Body: body}}})
	body.Kids[0].Names[0] = "y"
	if list := expectDefined(t, api.Prog{Funs: []api.FunExpr{{Name: "f", Body: body}}}); len(list) != 2 {
		t.Error(list)
	}
	vars := []string{"a", "b"}
	params := []api.TypeExpr{{Kind: api.TVar, Name: "a"}, {Kind: api.TVar, Name: "b"}}
	self := api.TypeExpr{Kind: api.TData, Name: "T", Args: params}
	other := api.TypeExpr{Kind: api.TTuple, Args: params}
	expectDefined(t, api.Prog{Data: []api.DataExpr{{Name: "T", Vars: vars, Cons: []api.ConExpr{{Name: "A", Args: []api.TypeExpr{self, self, other}}, {Name: "B", Args: params}}}}})
}
