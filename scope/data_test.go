package scope_test

import (
	"testing"

	"amortcost/api"
	"amortcost/scope"
)

// Promise 5.1

func expectDataError(t *testing.T, src string, code api.Errno, node int) {
	t.Helper()
	p := parse(t, src)
	want := api.Diag{Code: code, Fun: -1, Node: node}
	if data, diag := scope.Data(p); diag != want || len(data) > 0 {
		t.Errorf("%s: %v, %v, want %v", src, data, diag, want)
	}
	// A function with an error of its own changes nothing.
	p.Funs = append(p.Funs, api.FunExpr{Name: "f", Body: api.Expr{Op: api.EVar, Name: "unknown"}})
	if diag := scope.Check(p); diag != want {
		t.Errorf("%s: Check: %v, want %v", src, diag, want)
	}
	expectDefined(t, p)
}

func TestDataOfList(t *testing.T) {
	a := api.Type{Kind: api.TVar}
	want := []api.Data{{Name: "L", Vars: 1, Cons: []api.Con{{Name: "N"}, {Name: "C", Args: []api.Type{a, {Kind: api.TData, Args: []api.Type{a}}}}}}}
	data, diag := scope.Data(parse(t, "data L(a) = N | C(a, L(a));"))
	if !same(data, want) || diag != (api.Diag{}) {
		t.Errorf("%v, %v", data, diag)
	}
}

func TestDataOfAllTypes(t *testing.T) {
	p := parse(t, "data P(a, b) = P(b, a); data E = E; "+
		"data T(x, y, z) = T(int, bool, unit, z, y, x) | U(T(x, y, z), P(P(y, x), (z, int)), array(ref(x)), fn() -> z, fn(x, fn(y) -> z) -> P(int, unit)); "+
		"data F = V(T(E, int, P(bool, E)), F);")
	made := func(kind, num int, args ...api.Type) api.Type { return api.Type{Kind: kind, Num: num, Args: args} }
	num, truth, void := made(api.TInt, 0), made(api.TBool, 0), made(api.TUnit, 0)
	x, y, z := made(api.TVar, 0), made(api.TVar, 1), made(api.TVar, 2)
	want := []api.Data{
		{Name: "P", Vars: 2, Cons: []api.Con{{Name: "P", Args: []api.Type{y, x}}}},
		{Name: "E", Cons: []api.Con{{Name: "E"}}},
		{Name: "T", Vars: 3, Cons: []api.Con{{Name: "T", Args: []api.Type{num, truth, void, z, y, x}}, {Name: "U", Args: []api.Type{
			made(api.TData, 2, x, y, z),
			made(api.TData, 0, made(api.TData, 0, y, x), made(api.TTuple, 0, z, num)),
			made(api.TArray, 0, made(api.TRef, 0, x)),
			made(api.TFun, 0, z),
			made(api.TFun, 0, x, made(api.TFun, 0, y, z), made(api.TData, 0, num, void)),
		}}}},
		{Name: "F", Cons: []api.Con{{Name: "V", Args: []api.Type{made(api.TData, 2, made(api.TData, 1), num, made(api.TData, 0, truth, made(api.TData, 1))), made(api.TData, 3)}}}},
	}
	if data, diag := scope.Data(p); !same(data, want) || diag != (api.Diag{}) {
		t.Errorf("%v, %v", data, diag)
	}
	expectDefined(t, p)
}

func TestDataAccepts(t *testing.T) {
	for _, src := range []string{
		"", "fun f() = 1;", "data T = A;", "data T = A | B(T, T);",
		// Data types and constructors do not share names.
		"data T = T;", "data T = A; data U = T | U;", "data A = B(A) | A; data B = C(A, B);",
		// Type parameters belong to their declaration.
		"data T(a) = A(a); data U(a) = B(T(a));", "data T(a) = A; data U(b, a) = B(a, T(b));",
		// Several recursive arguments.
		"data T(a, b) = A | B(T(a, b), a, T(a, b));",
		// The arguments of earlier data types may be any types, also of this data type.
		"data S = S; data T(a) = A; data U = B(T(T(S)), T((int, bool)));", "data T(a) = A(T(a)); data U(a) = B(T(T(a)), array(T(int)));", "data T(a, b) = A; data U(a, b) = B(T(b, a), T(a, a));",
	} {
		p := parse(t, src)
		if data, diag := scope.Data(p); diag != (api.Diag{}) || len(data) != len(p.Data) {
			t.Errorf("%s: %v, %v", src, data, diag)
		}
		expectDefined(t, p)
	}
}

// TestDataIgnoresFunctions has errors of functions, which are none of Data.
func TestDataIgnoresFunctions(t *testing.T) {
	p := parse(t, "data T = A; fun f() = x; fun f() = B;")
	if data, diag := scope.Data(p); diag != (api.Diag{}) || !same(data, []api.Data{{Name: "T", Cons: []api.Con{{Name: "A"}}}}) {
		t.Errorf("%v, %v", data, diag)
	}
}

func TestDataErrors(t *testing.T) {
	for _, c := range []struct {
		src  string
		code api.Errno
		node int
	}{
		{"data T = A; data T = B;", api.ErrDuplicate, 1},
		{"data T = A; data U = B; data T = C;", api.ErrDuplicate, 2},
		{"data T(a, a) = A;", api.ErrDuplicate, 0},
		{"data T(a, b, c, d, e, a) = A;", api.ErrDuplicate, 0},
		{"data S = S; data T(a, b, b) = A;", api.ErrDuplicate, 1},
		{"data T = A | A;", api.ErrDuplicate, 0},
		{"data T = A | B | A(int);", api.ErrDuplicate, 0},
		{"data T = A; data U = B | A;", api.ErrDuplicate, 1},
		{"data T = A; data U = B; data V = A;", api.ErrDuplicate, 2},
		{"data T(a) = A(b);", api.ErrName, 0},
		{"data T = A(a);", api.ErrName, 0},
		{"data T(a) = A; data U(b) = B(a);", api.ErrName, 1},
		{"data T(a) = A(a) | B(fn(a) -> (int, b));", api.ErrName, 0},
		{"data T = A(U);", api.ErrName, 0},
		{"data T = A(U); data U = B;", api.ErrName, 0}, // a later declaration
		{"data T = A; data U = B(A);", api.ErrName, 1}, // a constructor is no type
		{"data T = A; data U = B(int, array(ref(V)));", api.ErrName, 1},
		{"data T = A; data U = B(T(int));", api.ErrArity, 1},
		{"data T(a) = A; data U = B(T);", api.ErrArity, 1},
		{"data T(a) = A; data U(a) = B(T(a, a));", api.ErrArity, 1},
		{"data T(a, b) = A; data U(a) = B((T(a), int));", api.ErrArity, 1},
		{"data T(a) = A(T);", api.ErrArity, 0},
		{"data T = A(T(T));", api.ErrArity, 0},
		{"data T(a) = A(T(a, a));", api.ErrArity, 0},
		{"data T = B | F(array(T));", api.ErrForm, 0},
		{"data T = B | F(ref(T));", api.ErrForm, 0},
		{"data T = B | F((int, T));", api.ErrForm, 0},
		{"data T = B | F(fn() -> T);", api.ErrForm, 0},
		{"data T = B | F(fn(T) -> int);", api.ErrForm, 0},
		{"data T(a) = B | F(a, array(T(a)));", api.ErrForm, 0},
		{"data T(a) = B | F(T(int));", api.ErrForm, 0},
		{"data T(a) = B | F(T(T(a)));", api.ErrForm, 0},
		{"data T(a) = B | F(T((a, a)));", api.ErrForm, 0},
		{"data T(a, b) = B | F(T(b, a));", api.ErrForm, 0},
		{"data T(a, b) = B | F(T(a, a));", api.ErrForm, 0},
		{"data T(a, b) = B | F(T(b, b));", api.ErrForm, 0},
		{"data L(a) = N | C(a, L(a)); data T = B | F(L(T));", api.ErrForm, 1},
	} {
		expectDataError(t, c.src, c.code, c.node)
	}
}

// TestOrderOfDataErrors has several errors in each program.
func TestOrderOfDataErrors(t *testing.T) {
	for _, c := range []struct {
		src  string
		code api.Errno
		node int
	}{
		{"data T = A(U); data T = A;", api.ErrName, 0},      // declarations in order
		{"data T = A; data T = B(U);", api.ErrDuplicate, 1}, // the head before the constructors
		{"data T(a, a) = A(b);", api.ErrDuplicate, 0},
		{"data T = A(b) | A;", api.ErrName, 0},      // constructors in order
		{"data T = A | A(b);", api.ErrDuplicate, 0}, // the name of a constructor before its arguments
		{"data T = A(T(int), b);", api.ErrArity, 0}, // arguments in order
		{"data T = A(b, T(int));", api.ErrName, 0},
		{"data T = A(array(T), b);", api.ErrForm, 0},
		{"data T = A((b, array(T)));", api.ErrName, 0}, // the nodes of an argument in order
		{"data T = A((array(T), b));", api.ErrForm, 0},
		{"data S = S; data T = A(S(b));", api.ErrArity, 1}, // a node before those within it
		{"data T(a) = A(T(b));", api.ErrForm, 0},
		{"data T(a) = A(array(T));", api.ErrArity, 0}, // the number of arguments before the place
		{"data T(a) = A(T(b, b));", api.ErrArity, 0},
		{"data T(a) = A(int) | B(T(array(b))) | A;", api.ErrForm, 0},
	} {
		expectDataError(t, c.src, c.code, c.node)
	}
}

func TestInvalidTrees(t *testing.T) {
	one := api.Expr{Op: api.EInt, Num: 1}
	for _, p := range []api.Prog{
		{Data: []api.DataExpr{{Name: "T"}}},
		{Data: []api.DataExpr{{Name: "T", Cons: []api.ConExpr{{Name: "A"}}}, {Name: "t", Cons: []api.ConExpr{{Name: "B"}}}}},
		{Data: []api.DataExpr{{Name: "T", Cons: []api.ConExpr{{Name: "A", Args: []api.TypeExpr{{}}}}}}},
		{Funs: []api.FunExpr{{Name: "f"}}},
		{Funs: []api.FunExpr{{Name: "f", Body: one}, {Name: "f", Params: []string{""}, Body: one}}},
		{Funs: []api.FunExpr{{Name: "f", Body: api.Expr{Op: api.EApp}}}},
		{Funs: []api.FunExpr{{Name: "f", Body: api.Expr{Op: api.EMatch, Kids: []api.Expr{one}}}}},
		{Funs: []api.FunExpr{{Name: "f", Body: api.Expr{Op: api.ELet, Kids: []api.Expr{one}}}}},
		// An error of a declaration comes behind, as does one of a function.
		{Data: []api.DataExpr{{Name: "T", Cons: []api.ConExpr{{Name: "A"}, {Name: "A"}}}}, Funs: []api.FunExpr{{Name: "f", Body: api.Expr{Op: api.EInt, Num: 1000001}}}},
		{Funs: []api.FunExpr{{Name: "f", Body: api.Expr{Op: api.EVar, Name: "x"}}, {Name: "g", Body: api.Expr{Op: 18}}}},
	} {
		want := api.Diag{Code: api.ErrInvalid, Fun: -1}
		if data, diag := scope.Data(p); diag != want || len(data) > 0 {
			t.Errorf("%v: %v, %v", p, data, diag)
		}
		if diag := scope.Check(p); diag != want {
			t.Errorf("%v: %v", p, diag)
		}
		if calls, groups := scope.Calls(p), scope.Groups(p); len(calls) > 0 || len(groups) > 0 {
			t.Errorf("%v: %v, %v", p, calls, groups)
		}
	}
}
