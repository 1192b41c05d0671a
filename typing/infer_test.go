package typing_test

import (
	"strings"
	"testing"

	"amortcost/api"
	"amortcost/scope"
	"amortcost/syntax"
	"amortcost/typing"
)

// Promise 6.1

func parse(t *testing.T, src string) api.Prog {
	t.Helper()
	p, at, refusal := syntax.Parse(src)
	if refusal != api.OK {
		t.Fatalf("%q: %d at %d", src, refusal, at)
	}
	return p
}

// expectDefined compares the result for a program with the definition, and returns the error.
func expectDefined(t *testing.T, p api.Prog) api.Diag {
	t.Helper()
	got, diag := typing.Infer(p)
	want, wantDiag := definedTyping(p)
	if diag != wantDiag || !same(got, want) {
		t.Errorf("%s: %v, %v, want %v, %v", syntax.Format(p), got, diag, want, wantDiag)
		return wantDiag
	}
	if diag.Code == api.OK {
		expectTable(t, p, got)
	}
	return diag
}

// schemeTexts returns the text of an fn type for each scheme.
func schemeTexts(p api.Prog, got api.Typing) []string {
	data, _ := scope.Data(p)
	var texts []string
	for _, scheme := range got.Schemes {
		texts = append(texts, definedFormat(data, plain(api.TFun, wholeOf(scheme)...)))
	}
	return texts
}

// noteTexts returns the texts of the notes of a function, with the types in brackets for an expression that has any.
func noteTexts(p api.Prog, notes []api.Note) []string {
	data, _ := scope.Data(p)
	var texts []string
	for _, note := range notes {
		text := definedFormat(data, note.Type)
		var args []string
		for _, arg := range note.Args {
			args = append(args, definedFormat(data, arg))
		}
		if len(args) > 0 {
			text += " [" + strings.Join(args, ", ") + "]"
		}
		texts = append(texts, text)
	}
	return texts
}

// expectSchemes expects these schemes, with variables that all of them have.
func expectSchemes(t *testing.T, src string, want ...string) {
	t.Helper()
	p := parse(t, src)
	got, diag := typing.Infer(p)
	if diag != (api.Diag{}) {
		t.Errorf("%s: %v", src, diag)
		return
	}
	if texts := schemeTexts(p, got); !same(texts, want) {
		t.Errorf("%s: %v, want %v", src, texts, want)
	}
	for _, scheme := range got.Schemes {
		most := -1
		for _, node := range flat(plain(api.TFun, wholeOf(scheme)...)) {
			if node.Kind == api.TVar {
				most = max(most, node.Num)
			}
		}
		if scheme.Vars != most+1 {
			t.Errorf("%s: %v", src, scheme)
		}
	}
	expectDefined(t, p)
}

func expectError(t *testing.T, src string, code api.Errno, fun int) {
	t.Helper()
	got, diag := typing.Infer(parse(t, src))
	if diag != (api.Diag{Code: code, Fun: fun}) || len(got.Schemes) > 0 || len(got.Notes) > 0 {
		t.Errorf("%s: %v, %v, want %d in %d", src, got, diag, code, fun)
	}
}

func TestExamples(t *testing.T) {
	expectNotes(t, "fun id(x) = x; fun f(y) = (id(y), id(1));", []string{"fn(a0) -> a0", "fn(a0) -> (a0, int)"},
		[]string{"a0"},
		[]string{"(a0, int)", "a0", "fn(a0) -> a0 [a0]", "a0", "int", "fn(int) -> int [int]", "int"})
	expectError(t, "fun f(x) = x(x);", api.ErrType, 0)
	expectNotes(t, "fun f(x) = raise(1);", []string{"fn(a0) -> a1"}, []string{"a1", "int"})
	// The chapter says fn(unit) -> int here, but the variable occurs in the scheme, so that it keeps its number.
	expectNotes(t, "fun f() = ((fn(x) -> 1), 2);", []string{"fn() -> (fn(a0) -> int, int)"}, []string{"(fn(a0) -> int, int)", "fn(a0) -> int", "int", "int"})
	expectNotes(t, "fun f() = let _ = ((fn(x) -> 1), 2) in 3;", []string{"fn() -> int"}, []string{"int", "(fn(unit) -> int, int)", "fn(unit) -> int", "int", "int", "int"})
}

// expectNotes expects these schemes, and these notes of the functions.
func expectNotes(t *testing.T, src string, schemes []string, notes ...[]string) {
	t.Helper()
	p := parse(t, src)
	got, diag := typing.Infer(p)
	if diag != (api.Diag{}) || len(got.Notes) != len(notes) || !same(schemeTexts(p, got), schemes) {
		t.Errorf("%s: %v, %v, %v", src, schemeTexts(p, got), got.Notes, diag)
		return
	}
	for f := range notes {
		if texts := noteTexts(p, got.Notes[f]); !same(texts, notes[f]) {
			t.Errorf("%s: function %d: %q, want %q", src, f, texts, notes[f])
		}
	}
	expectDefined(t, p)
}

const lists = "data L(a) = N | C(a, L(a)); "

func TestTable(t *testing.T) {
	for src, want := range map[string]string{
		"fun f() = ();":                                              "fn() -> unit",
		"fun f() = true;":                                            "fn() -> bool",
		"fun f() = false;":                                           "fn() -> bool",
		"fun f() = -3;":                                              "fn() -> int",
		"fun f(x) = x;":                                              "fn(a0) -> a0",
		"fun f(x, y, z) = y;":                                        "fn(a0, a1, a2) -> a1",
		"fun f() = tick(-1);":                                        "fn() -> unit",
		"fun f() = (1, true);":                                       "fn() -> (int, bool)",
		"fun f(x, y) = (y, x, (), (y, 1), 2, 3);":                    "fn(a0, a1) -> (a1, a0, unit, (a1, int), int, int)",
		"fun f(x) = let y = (x, x) in (y, x);":                       "fn(a0) -> ((a0, a0), a0)",
		"fun f(x) = let _ = x + 1 in ();":                            "fn(int) -> unit",
		"fun f(x) = let (y, z) = x in (z, y);":                       "fn((a0, a1)) -> (a1, a0)",
		"fun f(x) = let (_, y, z, _, u, _) = x in (z, y, u);":        "fn((a0, a1, a2, a3, a4, a5)) -> (a2, a1, a4)",
		"fun f(x, y, z) = if x then y else z;":                       "fn(bool, a0, a0) -> a0",
		"fun f() = fn(x, y) -> x;":                                   "fn() -> fn(a0, a1) -> a0",
		"fun f() = fn() -> 1;":                                       "fn() -> fn() -> int",
		"fun f(g) = g();":                                            "fn(fn() -> a0) -> a0",
		"fun f(g, x) = g(x, 1);":                                     "fn(fn(a0, int) -> a1, a0) -> a1",
		"fun f(g, x) = g(1)(x)(true);":                               "fn(fn(int) -> fn(a0) -> fn(bool) -> a1, a0) -> a1",
		"fun f(x, y) = x + y;":                                       "fn(int, int) -> int",
		"fun f(x, y) = x - y;":                                       "fn(int, int) -> int",
		"fun f(x, y) = x * y;":                                       "fn(int, int) -> int",
		"fun f(x, y) = x / y;":                                       "fn(int, int) -> int",
		"fun f(x, y) = x % y;":                                       "fn(int, int) -> int",
		"fun f(x, y) = x < y;":                                       "fn(int, int) -> bool",
		"fun f(x, y) = x <= y;":                                      "fn(int, int) -> bool",
		"fun f(x, y) = x == y;":                                      "fn(int, int) -> bool",
		"fun f(x, y) = new(x, y);":                                   "fn(int, a0) -> array(a0)",
		"fun f(x, y) = get(x, y);":                                   "fn(array(a0), int) -> a0",
		"fun f(x, y, z) = set(x, y, z);":                             "fn(array(a0), int, a0) -> unit",
		"fun f(x) = len(x);":                                         "fn(array(a0)) -> int",
		"fun f(x) = ref(x);":                                         "fn(a0) -> ref(a0)",
		"fun f(x) = read(x);":                                        "fn(ref(a0)) -> a0",
		"fun f(x, y) = write(x, y);":                                 "fn(ref(a0), a0) -> unit",
		"fun f(x) = raise(x);":                                       "fn(int) -> a0",
		"fun f(x) = (raise(x), raise(x));":                           "fn(int) -> (a0, a1)",
		"fun f(x, y) = try x catch e -> y end;":                      "fn(a0, a0) -> a0",
		"fun f() = try raise(1) catch e -> e end;":                   "fn() -> int",
		"fun f(x) = try x catch _ -> raise(2) end;":                  "fn(a0) -> a0",
		lists + "fun f() = N;":                                       "fn() -> L(a0)",
		lists + "fun f(x) = C(x, N);":                                "fn(a0) -> L(a0)",
		lists + "fun f(x, y) = C(x, y);":                             "fn(a0, L(a0)) -> L(a0)",
		lists + "fun f() = C(N, N);":                                 "fn() -> L(L(a0))",
		lists + "fun f(x) = match x with N -> 1 | C(_, _) -> 2 end;": "fn(L(a0)) -> int",
		lists + "fun f(x) = match x with C(y, z) -> (y, z) | N -> raise(1) end;": "fn(L(a0)) -> (a0, L(a0))",
		lists + "fun f(x, y) = match x with C(z, _) -> z | N -> y end;":          "fn(L(a0), a0) -> a0",
		lists + "fun f(x) = match x with C(y, z) -> y + 1 | N -> 2 end;":         "fn(L(int)) -> int",
		// The parameters of a data type are in the order of its declaration, and need not occur in constructors.
		"data T(a, b, c) = A(c, fn(b) -> ref(c)) | B; fun f(x, y) = A(x, y);":                                               "fn(a0, fn(a1) -> ref(a0)) -> T(a2, a1, a0)",
		"data T(a, b, c) = A(c, fn(b) -> ref(c)) | B; fun f(x) = match x with B -> raise(1) | A(y, z) -> (z, y) end;":       "fn(T(a0, a1, a2)) -> (fn(a1) -> ref(a2), a2)",
		lists + "data T(b) = A(L(L(b)), array(L((b, int)))); fun f(x, y) = match x with A(u, v) -> set(v, 0, C(y, N)) end;": "fn(T(a0), (a0, int)) -> unit",
	} {
		expectSchemes(t, src, want)
	}
}

// TestTableRefuses has at least one program for each demand of the table, which breaks only this one.
func TestTableRefuses(t *testing.T) {
	for _, src := range []string{
		"fun f() = let (x, y) = 1 in 2;", "fun f() = let (x, y) = (1, 2, 3) in 2;", "fun f() = let (x, y, z) = (1, 2) in 2;", "fun f() = let (x, y) = (1, true) in x + y;",
		"fun f() = let x = true in x + 1;", "fun f(x) = let y = x in (y + 1, y());",
		"fun f() = if 1 then 2 else 3;", "fun f() = if () then 2 else 3;", "fun f() = if true then 2 else ();", "fun f() = 1 + (if true then () else ());",
		"fun f() = 1();", "fun f() = (1, 2)(1);", "fun f() = (fn(x) -> x)();", "fun f() = (fn(x) -> x)(1, 2);", "fun f() = (fn(x, y) -> x + y)(1, true);", "fun f() = (fn(x, y) -> x + y)(true, 1);", "fun f() = (fn(x) -> x)(1)(2);", "fun f() = 1 + (fn(x) -> x)(true);",
		"fun f() = 1 + (fn() -> 1);", "fun f() = (fn(x) -> x + 1)(());", "fun f(x) = (x(1), x(1, 2));", "fun f(x) = (x(1), x(true));", "fun f(x) = (x(1) + 1, x(1)());",
		"fun f() = () + 1;", "fun f() = 1 + ();", "fun f() = true - 1;", "fun f() = 1 * true;", "fun f() = (1, 1) / 1;", "fun f() = 1 % ref(1);", "fun f() = true < 1;", "fun f() = 1 <= true;", "fun f() = true == true;", "fun f() = () == ();", "fun f() = 1 + (1 < 2);", "fun f() = 1 + (1 <= 2);", "fun f() = 1 + (1 == 2);", "fun f() = if 1 + 2 then 1 else 2;",
		"fun f() = new(true, 1);", "fun f() = 1 + new(1, 1);", "fun f() = get(1, 1);", "fun f() = get(new(1, 1), true);", "fun f() = get(ref(1), 0);", "fun f() = 1 + get(new(1, true), 1);",
		"fun f() = set(1, 1, 1);", "fun f() = set(new(1, 1), true, 1);", "fun f() = set(new(1, 1), 1, true);", "fun f() = 1 + set(new(1, 1), 1, 1);", "fun f() = len(1);", "fun f() = len(ref(1));", "fun f() = len(new(1, 1))();",
		"fun f() = 1 + ref(1);", "fun f() = read(1);", "fun f() = read(new(1, 1));", "fun f() = 1 + read(ref(true));", "fun f() = write(1, 1);", "fun f() = write(new(1, 1), 1);", "fun f() = write(ref(1), true);", "fun f() = 1 + write(ref(1), 1);",
		"fun f() = raise(true);", "fun f() = raise(());", "fun f() = try 1 catch e -> true end;", "fun f() = try true catch e -> e end;", "fun f() = try () catch e -> e() end;", "fun f() = 1 + (try true catch e -> true end);", "fun f() = try raise(()) catch e -> 1 end;",
		"fun f() = 1 + tick(1);", "fun f() = 1 + ();", "fun f() = if () then 1 else 2;", "fun f() = if (true, true) then 1 else 2;", "fun f() = (1, 2) + 3;",
		lists + "fun f() = C(1, 2);", lists + "fun f() = C(1, C(true, N));", lists + "fun f() = N + 1;", lists + "fun f() = match 1 with N -> 1 | C(x, y) -> 2 end;", lists + "fun f() = match N with N -> 1 | C(x, y) -> true end;", lists + "fun f() = match C(true, N) with N -> 1 | C(x, y) -> x end;", lists + "fun f() = match N with N -> 1 | C(x, y) -> y end;", lists + "fun f() = 1 + (match N with N -> () | C(x, y) -> () end);",
		lists + "data M(a) = O | D(a, M(a)); fun f() = C(1, O);", lists + "data M(a) = O | D(a, M(a)); fun f() = match N with O -> 1 | D(_, _) -> 2 end;", lists + "fun f() = match N with N -> C((), N) | C(x, y) -> C(1, y) end;",
		"data T(a, b) = A(a, b, a); fun f() = A(1, true, true);", "data T(a, b) = A(a, b, a); fun f() = match A(1, true, 2) with A(x, y, z) -> y + z end;", "data T(a) = A(int, a); fun f(x) = A(x, x)(1);", "data T(a) = A(int, a); fun f(x) = A(true, x);",
		// No type contains itself.
		"fun f(x) = x(x);", "fun f(x) = f;", "fun f() = f;", "fun f() = (f(), 1);", "fun f(x) = ref(f(x));", "fun f(x) = write(x, x);", "fun f(x) = set(x, 0, x);", "fun f(x) = if true then x else (x, x);", "fun f(x) = if true then (x, x) else x;", "fun f(x) = let (y, z) = x in y(x);", "fun f() = fn(x) -> x(x);", "fun f() = let _ = fn(x) -> x(x) in 1;", "fun f(x, y) = let _ = if true then (x, y) else ((y, y), (x, x)) in 1;", "fun f(x, y) = if true then (x, y) else (ref(y), ref(x));",
		lists + "fun f(x) = C(x, x);", "data T(a) = A(ref(ref(a)), a); fun f(x) = match x with A(y, z) -> if true then y else z end;", "data T(a) = A(ref(ref(a)), a); fun f(x) = match x with A(y, z) -> if true then z else y end;",
	} {
		expectError(t, src, api.ErrType, 0)
		expectDefined(t, parse(t, src))
	}
}

func TestNames(t *testing.T) {
	for src, want := range map[string]string{
		// An inner binding hides outer ones and functions.
		"fun f(f) = f + 1;":                                             "fn(int) -> int",
		"fun f(x) = let f = 1 in f + 2;":                                "fn(a0) -> int",
		"fun f(x) = let x = (x, x) in x;":                               "fn(a0) -> (a0, a0)",
		"fun f(x) = let (x, y) = (1, x) in (x, y);":                     "fn(a0) -> (int, a0)",
		"fun f(x) = (fn(x) -> x + 1, x);":                               "fn(a0) -> (fn(int) -> int, a0)",
		"fun f(x) = try x catch x -> let _ = x + 1 in raise(x) end;":    "fn(a0) -> a0",
		"fun f(e) = try e() catch e -> e end;":                          "fn(fn() -> int) -> int",
		lists + "fun f(x) = match x with N -> x | C(_, x) -> x end;":    "fn(L(a0)) -> L(a0)",
		lists + "fun f(x, y) = match x with N -> y | C(y, x) -> y end;": "fn(L(a0), a0) -> a0",
		// A scope ends.
		"fun f(x) = (let x = 1 in x, x);":                             "fn(a0) -> (int, a0)",
		"fun f(x) = ((fn(x) -> x + 1)(1), x());":                      "fn(fn() -> a0) -> (int, a0)",
		"fun f(x) = (try 1 catch x -> x end, x());":                   "fn(fn() -> a0) -> (int, a0)",
		"fun f(x) = let (y, _) = (let (x, _) = (1, 2) in x, 3) in x;": "fn(a0) -> a0",
		// Bound names have one type, which several uses share.
		"fun f(x) = let y = fn(z) -> z in (y(x), y);": "fn(a0) -> (a0, fn(a0) -> a0)",
		"fun f(g) = (g(1), g);":                       "fn(fn(int) -> a0) -> (a0, fn(int) -> a0)",
		// The names of nothing.
		"fun f(x) = let _ = x in let (_, _) = (x, 1) in x;": "fn(a0) -> a0",
	} {
		expectSchemes(t, src, want)
	}
	for _, src := range []string{lists + "fun f(x) = match x with N -> raise(x) | C(x, _) -> x end;", "fun f() = let y = fn(z) -> z in (y(1), y(true));", "fun f(g) = (g(1), g(true));", "fun f() = (fn(g) -> (g(1), g(())))(fn(x) -> x);", "fun f() = let (g, h) = (fn(x) -> x, 1) in (g(1), g(()));"} {
		expectError(t, src, api.ErrType, 0)
	}
}

func TestFunctions(t *testing.T) {
	for _, c := range []struct {
		src  string
		want []string
	}{
		{"", nil},
		{lists, nil},
		{"fun f() = g; fun g() = 1;", []string{"fn() -> fn() -> int", "fn() -> int"}},
		{"fun f(x) = (g, g(x)); fun g(x) = x;", []string{"fn(a0) -> (fn(a1) -> a1, a0)", "fn(a0) -> a0"}},
		// Functions of earlier groups have any instances, also at functions, and at each use its own.
		{"fun f() = (g(1), g(true), g(g)(g)); fun g(x) = x;", []string{"fn() -> (int, bool, fn(a0) -> a0)", "fn(a0) -> a0"}},
		{"fun f(x) = x; fun g(x, y) = (f(x), f(y), f((x, y)));", []string{"fn(a0) -> a0", "fn(a0, a1) -> (a0, a1, (a0, a1))"}},
		{"fun f(x) = h(x)(1); fun g(x, y) = y; fun h(x) = fn(y) -> g(x, g);", []string{"fn(a0) -> fn(a1, a2) -> a2", "fn(a0, a1) -> a1", "fn(a0) -> fn(a1) -> fn(a2, a3) -> a3"}},
		// A function has one type within its group.
		{"fun f(x) = if true then 1 else f(x);", []string{"fn(a0) -> int"}},
		{"fun f(x) = f(x);", []string{"fn(a0) -> a1"}},
		{"fun f(x) = let _ = f(1) in x;", []string{"fn(int) -> int"}},
		{"fun f(x, y) = f(y, x);", []string{"fn(a0, a0) -> a1"}},
		{"fun f(x) = g(x); fun g(y) = f(y);", []string{"fn(a0) -> a1", "fn(a0) -> a1"}},
		{"fun f(x) = let _ = g(1) in x; fun g(y) = f(y);", []string{"fn(int) -> int", "fn(int) -> int"}},
		{"fun f(x) = (g(x, 1), x); fun g(x, y) = let _ = f(x) in y;", []string{"fn(a0) -> (int, a0)", "fn(a0, int) -> int"}},
		{"fun f(x) = (g(x, 1), h(x)); fun g(x, y) = let _ = f(x) in y; fun h(x) = (x, x);", []string{"fn(a0) -> (int, (a0, a0))", "fn(a0, int) -> int", "fn(a0) -> (a0, a0)"}},
		{"fun f() = g(fn() -> f()); fun g(x) = 1;", []string{"fn() -> int", "fn(a0) -> int"}},
		{lists + "fun map(f, l) = match l with N -> N | C(x, r) -> C(f(x), map(f, r)) end; fun g(l) = map(fn(x) -> x < 1, map(fn(y) -> 1, l));", []string{"fn(fn(a0) -> a1, L(a0)) -> L(a1)", "fn(L(a0)) -> L(bool)"}},
		{lists + "fun app(l, m) = match l with N -> m | C(x, r) -> C(x, app(r, m)) end; fun size(l) = match l with N -> 0 | C(_, r) -> 1 + size(r) end; fun g(l) = size(app(l, C(1, N)));", []string{"fn(L(a0), L(a0)) -> L(a0)", "fn(L(a0)) -> int", "fn(L(int)) -> int"}},
	} {
		expectSchemes(t, c.src, c.want...)
	}
}

// TestNotes has the types for the variables of the functions that are named.
func TestNotes(t *testing.T) {
	for _, c := range []struct {
		src     string
		schemes []string
		notes   [][]string
	}{
		// All expressions in preorder: a node, its kids, and then the bodies of the alternatives.
		{lists + "fun f(l) = match (l, l) == 1 with N -> 1 | C(x, r) -> 2 end;", nil, nil},
		{lists + "fun f(l) = match let m = l in m with C(x, r) -> x + 1 | N -> 2 end;", []string{"fn(L(int)) -> int"}, [][]string{{"int", "L(int)", "L(int)", "L(int)", "int", "int", "int", "int"}}},
		{"fun f(x, g) = let (y, z) = x in if y < 1 then g(z, tick(1)) else try raise(3) catch e -> z end;", []string{"fn((int, a0), fn(a0, unit) -> a0) -> a0"},
			[][]string{{"a0", "(int, a0)", "a0", "bool", "int", "int", "a0", "fn(a0, unit) -> a0", "a0", "unit", "a0", "a0", "int", "a0"}}},
		{"fun f(x) = set(new(1, x), len(new(2, ())), read(ref(x)));", []string{"fn(a0) -> unit"}, [][]string{{"unit", "array(a0)", "int", "a0", "int", "array(unit)", "int", "unit", "a0", "ref(a0)", "a0"}}},
		// Types of names are known only later.
		{"fun f(x) = (x, x + 1);", []string{"fn(int) -> (int, int)"}, [][]string{{"(int, int)", "int", "int", "int", "int"}}},
		// The variables of a scheme are in the order of parameters and result, also in the notes.
		{"fun f(x, g, y) = g(y);", []string{"fn(a0, fn(a1) -> a2, a1) -> a2"}, [][]string{{"a2", "fn(a1) -> a2", "a1"}}},
		{"fun f(g, x) = let y = g(x) in fn(z) -> (z, y);", []string{"fn(fn(a0) -> a1, a0) -> fn(a2) -> (a2, a1)"}, [][]string{{"fn(a2) -> (a2, a1)", "a1", "fn(a0) -> a1", "a0", "fn(a2) -> (a2, a1)", "(a2, a1)", "a2", "a1"}}},
		// What does not occur in the scheme is unit.
		{"fun f(x) = let y = fn(z) -> (z, x) in 1;", []string{"fn(a0) -> int"}, [][]string{{"int", "fn(unit) -> (unit, a0)", "(unit, a0)", "unit", "a0", "int"}}},
		{"fun f() = raise(raise(1));", []string{"fn() -> a0"}, [][]string{{"a0", "int", "int"}}},
		{lists + "fun f() = let _ = C(N, N) in let _ = raise(1) in 2;", []string{"fn() -> int"}, [][]string{{"int", "L(L(unit))", "L(unit)", "L(L(unit))", "int", "unit", "int", "int"}}},
		// Types for the variables of earlier functions.
		{"fun k(x, y) = x; fun f(z) = let _ = k in let _ = k(k(1, z), true) in k;", []string{"fn(a0, a1) -> a0", "fn(a0) -> fn(a1, a2) -> a1"},
			[][]string{{"a0"}, {"fn(a1, a2) -> a1", "fn(unit, unit) -> unit [unit, unit]", "fn(a1, a2) -> a1", "int", "fn(int, bool) -> int [int, bool]", "int", "fn(int, a0) -> int [int, a0]", "int", "a0", "bool", "fn(a1, a2) -> a1 [a1, a2]"}}},
		{"fun k(x, y) = (fn(z) -> (z, y), x); fun f(x) = let (g, _) = k(true, x) in g;", []string{"fn(a0, a1) -> (fn(a2) -> (a2, a1), a0)", "fn(a0) -> fn(a1) -> (a1, a0)"},
			[][]string{{"(fn(a2) -> (a2, a1), a0)", "fn(a2) -> (a2, a1)", "(a2, a1)", "a2", "a1", "a0"}, {"fn(a1) -> (a1, a0)", "(fn(a1) -> (a1, a0), bool)", "fn(bool, a0) -> (fn(a1) -> (a1, a0), bool) [bool, a0, a1]", "bool", "a0", "fn(a1) -> (a1, a0)"}}},
		// Types for the variables of functions of the same group, in terms of the scheme of the one that names them.
		{"fun f(x, y) = f(y, x);", []string{"fn(a0, a0) -> a1"}, [][]string{{"a1", "fn(a0, a0) -> a1 [a0, a1]", "a0", "a0"}}},
		{"fun f(x) = g(fn(y) -> y, x); fun g(y, x) = let _ = f(x) in 1;", []string{"fn(a0) -> int", "fn(fn(a0) -> a0, a1) -> int"},
			[][]string{{"int", "fn(fn(unit) -> unit, a0) -> int [unit, a0]", "fn(unit) -> unit", "unit", "a0"}, {"int", "int", "fn(a1) -> int [a1]", "a1", "int"}}},
		{"fun f(x, y) = let _ = h in (g(y), x); fun g(x) = let (_, z) = f(raise(1), x) in let _ = h(z) in x; fun h(x) = 1;", []string{"fn(a0, a1) -> (a1, a0)", "fn(a0) -> a0", "fn(a0) -> int"},
			[][]string{{"(a1, a0)", "fn(unit) -> int [unit]", "(a1, a0)", "a1", "fn(a1) -> a1 [a1]", "a1", "a0"}, {"a0", "(a0, unit)", "fn(unit, a0) -> (a0, unit) [unit, a0]", "unit", "int", "a0", "a0", "int", "fn(unit) -> int [unit]", "unit", "a0"}, {"int"}}},
		// A function that is bound there is not the function.
		{"fun f(x) = x; fun g(f) = f(1);", []string{"fn(a0) -> a0", "fn(fn(int) -> a0) -> a0"}, [][]string{{"a0"}, {"a0", "fn(int) -> a0", "int"}}},
	} {
		if c.schemes == nil {
			expectError(t, c.src, api.ErrType, 0)
			continue
		}
		expectNotes(t, c.src, c.schemes, c.notes...)
	}
}

// TestErrorsInOrder has errors of several groups: the first group with an error counts, and its least function.
func TestErrorsInOrder(t *testing.T) {
	for _, c := range []struct {
		src string
		fun int
	}{
		{"fun f() = 1; fun g() = 1 + true;", 1},
		{"fun f() = 1 + true; fun g() = true + 1;", 0},
		{"fun f() = (g(), 1 + true); fun g() = true + 1;", 1},
		{"fun f() = (g(), 1 + true); fun g() = f;", 0},
		{"fun f() = g(1); fun g(x) = x + true;", 1},
		{"fun f() = g(true); fun g(x) = x + 1;", 0},
		{"fun f() = 1; fun g() = i; fun h() = 1 + true; fun i() = g;", 1},
		{"fun f() = 1; fun g() = i; fun h() = 1; fun i() = (g, 1 + true);", 1},
		{"fun f() = h(); fun g() = 1 + true; fun h() = (f(), 1 + true);", 0},
		{"fun f() = i(); fun g() = i(); fun h() = 1 + true; fun i() = 1 + true;", 2},
		{"fun f() = i(); fun g() = 1; fun h() = 2; fun i() = (h(), 1 + true);", 3},
		{"fun g(x) = x; fun f() = g(f);", 1},
		{lists + "fun f(l, m) = match l with N -> m | C(x, r) -> C(x, f(r, m)) end; fun g(l) = match l with N -> 0 | C(_, r) -> 1 + g(r) end; fun h(l) = g(f(l, C(l, N)));", 2},
	} {
		expectError(t, c.src, api.ErrType, c.fun)
		expectDefined(t, parse(t, c.src))
	}
}

// TestErrorsOfNames has the errors of scope.Check, which come before those of types.
func TestErrorsOfNames(t *testing.T) {
	for src, want := range map[string]api.Diag{
		"fun f() = 1 + true; fun g(x) = (x, y);":      {Code: api.ErrName, Fun: 1, Node: 2},
		"fun f() = (1, C);":                           {Code: api.ErrName, Node: 2},
		"fun f() = 1; fun f() = 2;":                   {Code: api.ErrDuplicate, Fun: 1},
		"fun f() = f(1);":                             {Code: api.ErrArity},
		"data T = A | A; fun f() = 1 + true;":         {Code: api.ErrDuplicate, Fun: -1},
		"data S = B; data T = A(U);":                  {Code: api.ErrName, Fun: -1, Node: 1},
		"data T = B | F(array(T));":                   {Code: api.ErrForm, Fun: -1},
		lists + "fun f(x) = match x with N -> 1 end;": {Code: api.ErrForm},
	} {
		got, diag := typing.Infer(parse(t, src))
		if diag != want || len(got.Schemes) > 0 || len(got.Notes) > 0 {
			t.Errorf("%s: %v, %v", src, got, diag)
		}
	}
	for _, p := range []api.Prog{
		{Funs: []api.FunExpr{{}}},
		{Funs: []api.FunExpr{{Name: "f", Body: api.Expr{Op: 18}}}},
		{Funs: []api.FunExpr{{Name: "f", Body: api.Expr{Op: api.EApp}}}},
		{Funs: []api.FunExpr{{Name: "f", Body: api.Expr{Op: api.EPrim, Num: 8}}}},
		{Data: []api.DataExpr{{Name: "T"}}},
	} {
		if got, diag := typing.Infer(p); diag != (api.Diag{Code: api.ErrInvalid, Fun: -1}) || len(got.Schemes) > 0 || len(got.Notes) > 0 {
			t.Errorf("%v: %v, %v", p, got, diag)
		}
	}
}

// At random

func TestRandomPrograms(t *testing.T) {
	r := newForge(61)
	seen := map[api.Errno]int{}
	for range 1500 {
		seen[expectDefined(t, r.program()).Code]++
	}
	if seen[api.OK] < 1400 || seen[api.ErrType] < 20 {
		t.Error(seen)
	}
}

func TestRandomlyChangedPrograms(t *testing.T) {
	r := newForge(62)
	seen := map[api.Errno]int{}
	for range 4000 {
		p := r.program()
		for range 1 + r.Intn(3) {
			r.change(&p)
		}
		seen[expectDefined(t, p).Code]++
	}
	for _, code := range []api.Errno{api.OK, api.ErrType, api.ErrName, api.ErrArity} {
		if seen[code] < 30 {
			t.Errorf("%d: %d times", code, seen[code])
		}
	}
}

func TestRandomlyGrowingPrograms(t *testing.T) {
	r := newForge(63)
	seen := map[api.Diag]int{}
	for range 4000 {
		seen[expectDefined(t, r.growing())]++
	}
	for _, code := range []api.Errno{api.ErrType, api.ErrLimit} {
		for fun := range 3 {
			if count := seen[api.Diag{Code: code, Fun: fun}]; count < 10 {
				t.Errorf("%d in %d: %d times", code, fun, count)
			}
		}
	}
}
