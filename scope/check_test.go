package scope_test

import (
	"strings"
	"testing"

	"amortcost/api"
	"amortcost/scope"
)

// Promise 5.2

// lists stands before the functions in the tests; its text has no influence on the numbers of nodes.
const lists = "data L(a) = N | C(a, L(a)); data P = P(int, int); data O = Q; "

func expectCheck(t *testing.T, src string, want api.Diag) {
	t.Helper()
	p := parse(t, lists+src)
	if diag := scope.Check(p); diag != want {
		t.Errorf("%s: %v, want %v", src, diag, want)
	}
	expectDefined(t, p)
}

func TestCheckAccepts(t *testing.T) {
	for _, src := range []string{
		"", "fun f() = 1;", "fun f(x) = x;", "fun f(x) = f(x);", "fun f() = g; fun g() = f;", "fun f(g) = g(1, 2, 3);",
		"fun f(x) = let x = x in x;", "fun f() = let x = 1 in let y = x in (x, y);", "fun f() = let _ = 1 in 2;",
		"fun f(p) = let (x, y) = p in (y, x, p);", "fun f(p) = let (_, _, x) = p in let (x, _) = x in x;",
		"fun f() = (fn() -> 1, fn(x) -> x, fn(x, y) -> (y, x));", "fun f() = fn(x) -> fn(x) -> x;",
		"fun f(l) = match l with N -> 0 | C(x, l) -> x + f(l) end;", "fun f(l) = match l with C(_, _) -> 1 | N -> 0 end;", "fun f(l) = match l with Q -> 1 end;",
		"fun f() = C(1, C(2, N));", "fun f() = (P(1, 2), Q);", "fun f() = (Q)(1);", "fun f() = (P(1, 2))();",
		"fun f() = try raise(1) catch x -> x end;", "fun f() = try 1 catch _ -> 2 end;",
		"fun f(x, y) = f(f(x, y), f(y, x));", "fun f() = f; fun g() = f()(1, 2);", "fun f(x) = x; fun g() = let f = 1 in f(1, 2, 3);",
		"fun f(x) = x; fun g() = (if true then f else f)(1, 2, 3);", "fun size(l) = match l with N -> 0 | C(x, r) -> 1 + size(r) end;",
		"fun f(x) = f(new(x, get(x, len(x))));", "fun f(x) = write(ref(read(x)), set(x, x, tick(1)));",
	} {
		expectCheck(t, src, api.Diag{})
	}
}

func TestCheckErrors(t *testing.T) {
	for _, c := range []struct {
		src       string
		code      api.Errno
		fun, node int
	}{
		// Heads of functions
		{"fun f() = 1; fun f() = 2;", api.ErrDuplicate, 1, 0},
		{"fun f() = 1; fun g() = 2; fun h() = 3; fun g(x) = x;", api.ErrDuplicate, 3, 0},
		{"fun f(x, x) = 1;", api.ErrDuplicate, 0, 0},
		{"fun f() = (1, 2); fun g(a, b, c, d, e, b) = 1;", api.ErrDuplicate, 1, 0},
		// EVar
		{"fun f() = x;", api.ErrName, 0, 0},
		{"fun f(x) = g(x);", api.ErrName, 0, 1},
		{"fun f(x) = x; fun g(y) = (y, (y, x));", api.ErrName, 1, 4},
		{"fun f(x) = (x, f, 1, g);", api.ErrName, 0, 4},
		// ECons
		{"fun f() = E;", api.ErrName, 0, 0},
		{"fun f(x) = (x, L(x));", api.ErrName, 0, 2},
		{"fun f() = C(1);", api.ErrArity, 0, 0},
		{"fun f() = C(1, C);", api.ErrArity, 0, 2},
		{"fun f() = C(1, N(1));", api.ErrArity, 0, 2},
		{"fun f() = P(1, 2, 3);", api.ErrArity, 0, 0},
		// EUntuple and EFn
		{"fun f(p) = let (x, x) = p in 1;", api.ErrDuplicate, 0, 0},
		{"fun f(p) = let _ = p in let (x, _, y, _, x) = p in 1;", api.ErrDuplicate, 0, 2},
		{"fun f() = fn(x, x) -> 1;", api.ErrDuplicate, 0, 0},
		{"fun f(p) = (p, fn(x, y) -> fn(x, y, z, y) -> 1);", api.ErrDuplicate, 0, 3},
		// EMatch
		{"fun f(l) = match l with N -> 1 | E(_, _) -> 2 end;", api.ErrName, 0, 0},
		{"fun f(l) = match l with L -> 1 end;", api.ErrName, 0, 0},
		{"fun f(l) = 1 + (match l with N -> 1 | C(x) -> 2 end);", api.ErrArity, 0, 2},
		{"fun f(l) = match l with N(x) -> 1 | C(x, y) -> 2 end;", api.ErrArity, 0, 0},
		{"fun f(l) = match l with N -> 1 | C -> 2 end;", api.ErrArity, 0, 0},
		{"fun f(l) = match l with N -> 1 | C(x, x) -> 2 end;", api.ErrDuplicate, 0, 0},
		{"fun f(l) = match l with N -> 1 end;", api.ErrForm, 0, 0},
		{"fun f(l) = match l with C(x, y) -> 1 end;", api.ErrForm, 0, 0},
		{"fun f(l) = match l with N -> 1 | N -> 2 end;", api.ErrForm, 0, 0},
		{"fun f(l) = match l with N -> 1 | C(x, y) -> 2 | N -> 3 end;", api.ErrForm, 0, 0},
		{"fun f(l) = match l with Q -> 1 | Q -> 2 end;", api.ErrForm, 0, 0},
		{"fun f(l) = match l with N -> 1 | Q -> 2 end;", api.ErrForm, 0, 0},
		{"fun f(l) = match l with N -> 1 | P(_, _) -> 2 end;", api.ErrForm, 0, 0},
		{"fun f(l) = match l with Q -> 1 | C(x, y) -> 2 | N -> 3 end;", api.ErrForm, 0, 0},
		{"fun f(l) = match l with C(x, y) -> 1 | N -> 2 | Q -> 3 end;", api.ErrForm, 0, 0},
		// EApp
		{"fun f(x) = f(x, x);", api.ErrArity, 0, 0},
		{"fun f(x) = f();", api.ErrArity, 0, 0},
		{"fun f() = f(1);", api.ErrArity, 0, 0},
		{"fun f(x) = (x, f(1)(2), f(1, 2)(3));", api.ErrArity, 0, 8},
		{"fun f() = g(1); fun g() = 2;", api.ErrArity, 0, 0},
		{"fun f(g) = g(1); fun g() = f(1, 2);", api.ErrArity, 1, 0},
		{"fun f(x) = (f)(1, 2);", api.ErrArity, 0, 0},
	} {
		expectCheck(t, c.src, api.Diag{Code: c.code, Fun: c.fun, Node: c.node})
	}
}

// TestOrderOfCheckErrors has several errors in each program.
func TestOrderOfCheckErrors(t *testing.T) {
	for _, c := range []struct {
		src       string
		code      api.Errno
		fun, node int
	}{
		// Functions in order, each head before its body.
		{"fun f() = x; fun f() = C;", api.ErrName, 0, 0},
		{"fun f() = 1; fun f() = x;", api.ErrDuplicate, 1, 0},
		{"fun f(x, x) = y; fun f() = y;", api.ErrDuplicate, 0, 0},
		{"fun f() = (1, x); fun g(x, x) = 1;", api.ErrName, 0, 2},
		// Expressions in preorder: a node, its kids in order, its bodies in order.
		{"fun f() = (C, x);", api.ErrArity, 0, 1},
		{"fun f() = (x, C);", api.ErrName, 0, 1},
		{"fun f() = C(x);", api.ErrArity, 0, 0},
		{"fun f() = E(C);", api.ErrName, 0, 0},
		{"fun f() = fn(x, x) -> y;", api.ErrDuplicate, 0, 0},
		{"fun f() = let (x, x) = y in z;", api.ErrDuplicate, 0, 0},
		{"fun f(x) = f(y, C);", api.ErrArity, 0, 0},
		{"fun f(x) = g(y, C);", api.ErrName, 0, 1},
		{"fun f() = match C with N -> E | Q -> 1 end;", api.ErrForm, 0, 0},
		{"fun f() = match C with N -> E | C(x, y) -> z end;", api.ErrArity, 0, 1},
		{"fun f() = match N with N -> E | C(x, y) -> C end;", api.ErrName, 0, 2},
		{"fun f() = match N with N -> (1, 2) | C(x, y) -> C end;", api.ErrArity, 0, 5},
		{"fun f() = if (1, 2) == 3 then (4, x) else C;", api.ErrName, 0, 8},
		// Alternatives in order, each with all its errors, and then the match.
		{"fun f(l) = match l with C(x) -> 1 | E -> 2 end;", api.ErrArity, 0, 0},
		{"fun f(l) = match l with E -> 1 | C(x) -> 2 end;", api.ErrName, 0, 0},
		{"fun f(l) = match l with C(x, x) -> 1 | E -> 2 end;", api.ErrDuplicate, 0, 0},
		{"fun f(l) = match l with C(x, x) -> 1 | N(x) -> 2 end;", api.ErrDuplicate, 0, 0},
		{"fun f(l) = match l with N(x) -> 1 | C(x, x) -> 2 end;", api.ErrArity, 0, 0},
		{"fun f(l) = match l with C(x, x, y) -> 1 | N -> 2 end;", api.ErrArity, 0, 0},
		{"fun f(l) = match l with E(x, x) -> 1 end;", api.ErrName, 0, 0},
		{"fun f(l) = match l with C(x, y) -> 1 | Q -> 2 | E -> 3 end;", api.ErrName, 0, 0},
		{"fun f(l) = match l with N -> 1 | N(x) -> 2 end;", api.ErrArity, 0, 0},
		{"fun f(l) = match l with Q -> 1 | C(x, x) -> 2 end;", api.ErrDuplicate, 0, 0},
	} {
		expectCheck(t, c.src, api.Diag{Code: c.code, Fun: c.fun, Node: c.node})
	}
}

// TestBindings has for each binding the places where the name is bound, with a node that is its use, and those where it is not.
func TestBindings(t *testing.T) {
	for _, c := range []struct {
		text  string
		node  int
		bound bool
	}{
		{"let x = ? in 1", 1, false}, {"let x = 1 in ?", 2, true}, {"(let x = 1 in 2, ?)", 4, false}, {"let _ = 1 in ?", 2, false}, {"let y = 1 in ?", 2, false},
		{"let (x, y) = ? in 1", 1, false}, {"let (x, y) = 1 in ?", 2, true}, {"let (_, y, x) = 1 in ?", 2, true}, {"(let (x, _) = 1 in 2, ?)", 4, false}, {"let (_, y) = 1 in ?", 2, false},
		{"fn(x) -> ?", 1, true}, {"fn(y, x) -> ?", 1, true}, {"fn(y) -> ?", 1, false}, {"fn() -> ?", 1, false}, {"(fn(x) -> 1, ?)", 3, false},
		{"try ? catch x -> 1 end", 1, false}, {"try 1 catch x -> ? end", 2, true}, {"try 1 catch _ -> ? end", 2, false}, {"(try 1 catch x -> 2 end, ?)", 4, false},
		{"match ? with N -> 1 | C(x, y) -> 2 end", 1, false}, {"match 1 with N -> ? | C(x, y) -> 2 end", 2, false}, {"match 1 with N -> 2 | C(x, y) -> ? end", 3, true}, {"match 1 with N -> 2 | C(_, x) -> ? end", 3, true},
		{"match 1 with C(x, y) -> 2 | N -> ? end", 3, false}, {"match 1 with C(y, _) -> ? | N -> 2 end", 2, false}, {"(match 1 with C(x, y) -> 2 | N -> 3 end, ?)", 5, false},
		{"if let x = 1 in 2 then ? else 3", 4, false}, {"if 1 then let x = 1 in 2 else ?", 5, false},
		{"let x = 1 in fn(y) -> try 1 catch z -> match 1 with C(a, b) -> let (c, d) = 1 in (1, (?, 2)) | N -> 2 end end", 12, true},
		{"fn(x) -> let x = ? in 1", 2, true}, {"let x = let x = ? in 1 in 2", 2, false}, {"let x = let x = 1 in ? in 2", 3, true},
	} {
		use := func(text string) string { return strings.Replace(c.text, "?", text, 1) }
		want := api.Diag{}
		if !c.bound {
			want = api.Diag{Code: api.ErrName, Node: c.node}
		}
		expectCheck(t, "fun f() = "+use("x")+";", want)
		// A parameter is bound everywhere, and so is a function.
		expectCheck(t, "fun f(x) = "+use("x")+";", api.Diag{})
		expectCheck(t, "fun f() = "+use("x")+"; fun x(a) = 1;", api.Diag{})
		// Where the function is not hidden, the number of its arguments counts.
		if want.Code != api.OK {
			want.Code = api.ErrArity
		}
		expectCheck(t, "fun f() = "+use("x(1, 2)")+"; fun x(a) = 1;", want)
		expectCheck(t, "fun x(a) = 1; fun f() = "+use("x(1)")+";", api.Diag{})
		expectCheck(t, "fun x(a) = 1; fun f(x) = "+use("x(1, 2)")+";", api.Diag{})
		// Where it is not hidden, it is named.
		p := parse(t, lists+"fun x(a) = 1; fun f() = "+use("x")+";")
		wantCalls := [][]int{{}, {0}}
		if c.bound {
			wantCalls[1] = nil
		}
		if calls := scope.Calls(p); !same(calls, wantCalls) {
			t.Errorf("%s: %v, want %v", c.text, calls, wantCalls)
		}
	}
}

// TestFirstOfSeveralFunctions has functions with one name, of which the first is meant, also before the second one is reached.
func TestFirstOfSeveralFunctions(t *testing.T) {
	expectCheck(t, "fun g() = f(1); fun f(x) = x; fun f() = 1;", api.Diag{Code: api.ErrDuplicate, Fun: 2})
	expectCheck(t, "fun g() = f(); fun f(x) = x; fun f() = 1;", api.Diag{Code: api.ErrArity})
	expectCheck(t, "fun f() = f(); fun f(x) = x;", api.Diag{Code: api.ErrDuplicate, Fun: 1})
}

func TestCheckReturnsErrorOfData(t *testing.T) {
	for _, c := range []struct {
		src  string
		code api.Errno
		node int
	}{
		{"data T = A; data T = B; fun f() = x;", api.ErrDuplicate, 1},
		{"fun f() = x; data T = A(a);", api.ErrName, 0},
		{"fun f() = 1; data T = A; data U = B(T(int));", api.ErrArity, 1},
		{"data T = A(ref(T)); fun f() = 1; fun f() = 1;", api.ErrForm, 0},
	} {
		p := parse(t, c.src)
		if diag := scope.Check(p); diag != (api.Diag{Code: c.code, Fun: -1, Node: c.node}) {
			t.Errorf("%s: %v", c.src, diag)
		}
		if calls, groups := scope.Calls(p), scope.Groups(p); len(calls) > 0 || len(groups) > 0 {
			t.Errorf("%s: %v, %v", c.src, calls, groups)
		}
	}
}
