package special_test

import (
	"strconv"
	"strings"
	"testing"

	"amortcost/api"
	"amortcost/special"
	"amortcost/syntax"
	"amortcost/typing"
)

// Promise 7.2

// expectDemand compares Demand with the definition, and returns the instances as a text, or the error.
func expectDemand(t *testing.T, p api.Prog) (string, api.Diag) {
	t.Helper()
	got, diag := special.Demand(p)
	want, wantDiag := definedDemand(p)
	if diag != wantDiag || !same(got, want) {
		t.Errorf("%s: %v, %v, want %v, %v", syntax.Format(p), got, diag, want, wantDiag)
	}
	return instanceTexts(p, want), wantDiag
}

func TestDemand(t *testing.T) {
	const id = "fun id(x) = x; "
	const k = "fun k(x, y) = x; "
	for _, c := range []struct {
		src, want string
	}{
		{id + "fun f(y) = (id(y), id(1)); fun g() = f(true);", "g f[bool] id[bool] id[int]"},
		{"fun id(x) = x;", ""},
		{"", ""},
		{lists, ""},
		// Functions without variables, also those that nothing needs
		{"fun c() = b(); fun b() = 1; fun a() = c(); fun d(x) = x + 1;", "c b a d"},
		{"fun f() = g() + 1; fun g() = f(); fun e(x) = e(x);", "f g"},
		{"fun f() = fn(x) -> x; fun g() = 1;", "g"},
		// Functions that no ground function needs
		{id + "fun f(x) = id(x); fun g() = 1;", "g"},
		{"fun f(x) = f(x); fun g() = f(1);", ""},
		{"fun f(x) = f(x); fun g() = 1 + f(true);", "g f[bool, int]"},
		// Instances are visited in their order, each after those of all earlier ones have been added.
		{"fun a(x) = c(x); fun b(x) = d(x); fun c(x) = e(x); fun d(x) = x; fun e(x) = x; fun g() = (a(1), b(true));", "g a[int] b[bool] c[int] d[bool] e[int]"},
		{id + "fun f() = (id(1), h(2)); fun g() = (h(3), id(())); fun h(x) = id(true);", "f g id[int] h[int] id[unit] id[bool]"},
		{id + "fun g() = id(1); fun h() = 1; fun f() = id(true);", "g h f id[int] id[bool]"},
		// Preorder: the function of an application before its arguments, kids in their order, then alternatives in theirs
		{id + k + "fun g() = k(id(1), id(true));", "g k[int, bool] id[int] id[bool]"},
		{id + "fun g() = id(ref(id(id(true)))) ;", "g id[ref(bool)] id[bool]"},
		{lists + id + "fun g() = match id(C((), N)) with C(x, _) -> id(1) | N -> (let _ = id(true) in 2) end;", "g id[L(unit)] id[int] id[bool]"},
		{lists + id + "fun g() = match id(C((), N)) with N -> id(1) | C(x, _) -> (let _ = id(true) in 2) end;", "g id[L(unit)] id[int] id[bool]"},
		{id + "fun g() = if id(true) then id(1) else (let _ = id(()) in 2);", "g id[bool] id[int] id[unit]"},
		{id + "fun g() = let x = id(1) in let _ = fn(z) -> id(true) in id((x, z)) ; fun z() = 1;", "g z id[int] id[bool] id[(int, fn() -> int)]"},
		{id + "fun g() = let _ = try id(1) catch x -> (let _ = id(true) in x) end in let (_, _) = (id(()), 1) in id(ref(1));", "g id[int] id[bool] id[unit] id[ref(int)]"},
		{id + "fun g() = set(id(new(id(1), id(true))), 0, id(id(false)));", "g id[array(bool)] id[int] id[bool]"},
		{id + "fun g() = id(1) + (if id(true) then raise(id(2)) else len(new(3, id(()))));", "g id[int] id[bool] id[unit]"},
		// A function that is not applied
		{id + "fun g() = let h = id in h(1);", "g id[int]"},
		{id + "fun g() = (let _ = id in 1, fn(x) -> x + 1);", "g id[unit]"},
		{id + "fun ap(f, x) = f(x); fun g() = ap(id, true);", "g ap[bool, bool] id[bool]"},
		// No instance twice
		{id + "fun g() = id(1) + id(2); fun h() = id(3);", "g h id[int]"},
		{"fun f(x) = (let _ = f(x) in 1) + g(x); fun g(x) = f(x); fun h() = g(true) + f(true);", "h g[bool] f[bool]"},
		{k + "fun g() = (k(1, true), k(true, 1), k(1, true));", "g k[int, bool] k[bool, int]"},
		// The order of the Args is that of the variables of the scheme.
		{"fun k(x, y, z) = (y, x); fun g() = k(1, true, ());", "g k[int, bool, unit]"},
		{"fun e() = raise(1); fun g() = e() + 1;", "g e[int]"},
		{"fun k(x) = raise(1); fun g() = 1 + k(());", "g k[unit, int]"},
		// Types that do not matter
		{id + "fun g() = let _ = fn(x) -> id(x) in 1;", "g id[unit]"},
		{"fun f(x) = g(); fun g() = let _ = fn(y) -> f((y, y)) in 1;", "g f[unit]"},
		{id + "fun g(x) = let _ = fn(y) -> id(y) in let _ = id(x) in 1; fun h() = g(true);", "h g[bool] id[unit] id[bool]"},
		// Groups
		{"fun f(x) = g(x); fun g(y) = f(y); fun h() = 1 + f(true);", "h f[bool, int] g[bool, int]"},
		{id + "fun even(n, x) = if n == 0 then (x, 1) else odd(n - 1, x); fun odd(n, x) = if n == 0 then (id(x), 2) else even(n - 1, x); fun g() = even(3, true);", "g even[bool] odd[bool] id[bool]"},
		// Types
		{lists + id + "data D = E; data P(a, b) = Q(a, b); fun g() = (id(C(1, N)), id(E), id(Q(E, ())), id(fn() -> 1), id(fn(x, y) -> x + y), id((1, ())));", "g id[L(int)] id[D] id[P(D, unit)] id[fn() -> int] id[fn(int, int) -> int] id[(int, unit)]"},
		{k + "fun g() = (k(fn() -> fn() -> 1, 1), k(fn() -> 1, fn() -> 1), k((1, 2), 3), k(1, (2, 3)));", "g k[fn() -> fn() -> int, int] k[fn() -> int, fn() -> int] k[(int, int), int] k[int, (int, int)]"},
		{lists + "fun map(f, l) = match l with N -> N | C(x, r) -> C(f(x), map(f, r)) end; fun g() = map(fn(x) -> (x, true), map(fn(x) -> x + 1, C(1, N)));", "g map[int, (int, bool)] map[int, int]"},
	} {
		if text, diag := expectDemand(t, parse(t, c.src)); text != c.want || diag.Code != api.OK {
			t.Errorf("%s: %q, %v, want %q", c.src, text, diag, c.want)
		}
	}
}

// TestHiddenFunctions has names of functions that are bound, and the same names where they are not.
func TestHiddenFunctions(t *testing.T) {
	const id = lists + "fun id(x) = x; "
	for _, c := range []struct {
		src, want string
	}{
		{"fun g(id) = id + 1;", "g"},
		{"fun g(id) = 1 + id(true);", "g"},
		{"fun g() = let id = fn(x) -> 2 in id(1);", "g"},
		{"fun g() = let id = id(1) in id;", "g id[int]"},
		{"fun g() = (let id = 1 in id, id(true));", "g id[bool]"},
		{"fun g() = let (_, id) = (1, 2) in id;", "g"},
		{"fun g() = let (_, id) = (id(1), id(true)) in id;", "g id[int] id[bool]"},
		{"fun g() = match C(1, N) with N -> id(true) | C(id, _) -> id == 1 end;", "g id[bool]"},
		{"fun g() = match C(1, N) with C(_, id) -> id | N -> id(N) end;", "g id[L(int)]"},
		{"fun g() = match C(id(1), N) with C(id, _) -> id | N -> 1 end;", "g id[int]"},
		{"fun g() = fn(id) -> id + 1;", "g"},
		{"fun g() = (fn(id) -> id + 1, id(true));", "g id[bool]"},
		{"fun g() = fn(id) -> fn(x) -> id + x;", "g"},
		{"fun g() = try 1 catch id -> id end;", "g"},
		{"fun g() = try id(1) catch id -> id end;", "g id[int]"},
		{"fun g() = let id = true in let _ = id in match C(1, N) with N -> id | C(_, _) -> id end;", "g"},
		{"fun g(x) = let y = id in y(x); fun h() = g(1);", "h g[int] id[int]"},
	} {
		if text, diag := expectDemand(t, parse(t, id+c.src)); text != c.want || diag.Code != api.OK {
			t.Errorf("%s: %q, %v, want %q", c.src, text, diag, c.want)
		}
	}
}

// many returns a body that names this number of instances of functions, at most 121 of each one, in the order of the functions.
func many(counts ...int) string {
	body := "let a = 1 in let b = true in let c = () in let d = ref(a) in let e = ref(b) in let f = ref(c) in let g = (a, a) in let h = (a, b) in let i = (b, b) in let j = (c, c) in let k = (b, a) in "
	for fun, count := range counts {
		for first := 0; first < count; first += 10 {
			body += "let _ = 0"
			for each := first; each < min(first+10, count); each++ {
				body += " + k" + strconv.Itoa(fun) + "(" + "abcdefghijk"[each/11:][:1] + ", " + "abcdefghijk"[each%11:][:1] + ")"
			}
			body += " in "
		}
	}
	return body + "0"
}

// TestMaxCodes has programs with as many instances as there may be, and one more.
func TestMaxCodes(t *testing.T) {
	const funs = "fun k0(x, y) = 0; fun k1(x, y) = 0; fun k2(x, y) = k0(x, x) + k0(y, y) + k0(ref(x), y); "
	const wide = "fun wide(x) = let _ = ((x, x, x, x), (x, x, x, x)) in 0; fun both(x) = let _ = ((x, x, x, x), (x, x, x, x)) in k0(x, x); "
	// The tuple of wide and both has 3 nodes and those of 8 times x: 195 with x of 24 nodes, 203 with 25.
	small, large := "("+strings.Repeat("(1, 2, 3), ", 5)+"(1, 2))", "("+strings.Repeat("(1, 2, 3), ", 5)+"(1, 2, 3))"
	for _, c := range []struct {
		src  string
		list int
		diag api.Diag
	}{
		{funs + "fun main() = " + many(63) + ";", 64, api.Diag{}},
		{funs + "fun main() = " + many(64) + ";", 0, api.Diag{Code: api.ErrLimit}},
		{funs + "fun main() = " + many(30, 33) + ";", 64, api.Diag{}},
		{funs + "fun main() = " + many(30, 34) + ";", 0, api.Diag{Code: api.ErrLimit, Fun: 1}},
		{funs + "fun main() = " + many(30, 34, 1) + ";", 0, api.Diag{Code: api.ErrLimit, Fun: 1}},
		{funs + "fun main() = " + many(30, 33, 1) + ";", 0, api.Diag{Code: api.ErrLimit, Fun: 2}},
		// Functions without variables count, wherever they are.
		{funs + "fun main() = " + many(61) + "; fun o() = 0; fun p() = 0;", 64, api.Diag{}},
		{funs + "fun main() = " + many(62) + "; fun o() = 0; fun p() = 0;", 0, api.Diag{Code: api.ErrLimit}},
		// Instances that are in the list are not appended.
		{funs + "fun main() = let _ = " + many(63) + " in k0(1, 1) + k0(true, 1);", 64, api.Diag{}},
		{funs + "fun main() = let _ = " + many(62) + " in k0(1, 1) + k0(true, 1); fun o() = k0(1, 1);", 64, api.Diag{}},
		// k2[int, int] names k0[int, int] and k0[ref(int), int].
		{funs + "fun main() = " + many(0, 60, 1) + ";", 64, api.Diag{}},
		{funs + "fun main() = " + many(0, 61, 1) + ";", 0, api.Diag{Code: api.ErrLimit}},
		{"fun o() = 0; " + funs + "fun main() = " + many(0, 60, 1) + ";", 0, api.Diag{Code: api.ErrLimit, Fun: 1}},
		// An error of typing comes first.
		{funs + "fun main() = " + many(64) + "; fun o(x) = x(x);", 0, api.Diag{Code: api.ErrType, Fun: 4}},
		{funs + "fun main() = " + many(64) + "; fun o(x) = y;", 0, api.Diag{Code: api.ErrName, Fun: 4}},
		// An instance with too large types, and one that names too many others: what counts is whose turn comes first.
		{funs + wide + "fun o() = wide(" + small + ") + k2(1, 2); fun main() = " + many(0, 58) + ";", 64, api.Diag{}},
		{funs + wide + "fun o() = wide(" + large + ") + k2(1, 2); fun main() = " + many(0, 58) + ";", 0, api.Diag{Code: api.ErrLimit, Fun: 3}},
		{funs + wide + "fun o() = wide(" + small + ") + k2(1, 2); fun main() = " + many(0, 59) + ";", 0, api.Diag{Code: api.ErrLimit, Fun: 0}},
		{funs + wide + "fun o() = wide(" + large + ") + k2(1, 2); fun main() = " + many(0, 59) + ";", 0, api.Diag{Code: api.ErrLimit, Fun: 3}},
		{funs + wide + "fun o() = k2(1, 2) + wide(" + large + "); fun main() = " + many(0, 59) + ";", 0, api.Diag{Code: api.ErrLimit, Fun: 0}},
		{funs + wide + "fun o() = wide(" + large + "); fun main() = " + many(0, 61) + ";", 0, api.Diag{Code: api.ErrLimit, Fun: 3}},
		{funs + wide + "fun o() = wide(" + large + "); fun main() = " + many(0, 62) + ";", 0, api.Diag{Code: api.ErrLimit, Fun: 1}},
		// One instance with both errors
		{funs + wide + "fun o() = both(" + small + "); fun main() = " + many(0, 60) + ";", 64, api.Diag{}},
		{funs + wide + "fun o() = both(" + small + "); fun main() = " + many(0, 61) + ";", 0, api.Diag{Code: api.ErrLimit, Fun: 0}},
		{funs + wide + "fun o() = both(" + large + "); fun main() = " + many(0, 61) + ";", 0, api.Diag{Code: api.ErrLimit, Fun: 4}},
	} {
		p := parse(t, c.src)
		_, diag := expectDemand(t, p)
		if got, _ := special.Demand(p); diag != c.diag || len(got) != c.list {
			t.Errorf("%s: %d instances, %v, want %d, %v", c.src, len(got), diag, c.list, c.diag)
		}
	}
}

// TestGrowingTypes has instances with too large types, whose functions have none.
func TestGrowingTypes(t *testing.T) {
	const p = "fun p(x) = let _ = ((x, x, x, x, x, x), (x, x, x, x, x, x)) in 0; "
	const s = "fun s(x) = let _ = ((x, x, x, x, x, x), (x, x, x, x, x, x)) in 0; "
	// The tuple has 3 nodes and those of 12 times x: 195 with x of 16 nodes, 207 with 17.
	const small, large = "(1, 2, 3, (4, 5, (6, 7, 8, 9, (10, 11, 12))))", "(1, 2, 3, (4, 5, (6, 7, 8, 9, (10, 11, 12, 13))))"
	const fits = "(int, int, int, (int, int, (int, int, int, int, (int, int, int))))"
	for _, c := range []struct {
		src, want string
		diag      api.Diag
	}{
		{p + "fun g() = p(" + small + ");", "g p[" + fits + "]", api.Diag{}},
		{p + "fun g() = p(" + large + ");", "", api.Diag{Code: api.ErrLimit}},
		{p + "fun g() = p(ref(" + small + "));", "", api.Diag{Code: api.ErrLimit}},
		{"fun o() = 1; fun g() = p(" + large + "); " + p, "", api.Diag{Code: api.ErrLimit, Fun: 2}},
		{"fun o() = 1; fun g(x) = p(" + large + "); " + p, "o", api.Diag{}},
		{"fun o() = 1; fun g() = q((1, " + small + ")); fun q(x) = let (_, y) = x in p(y); " + p, "o g q[int, " + fits + "] p[" + fits + "]", api.Diag{}},
		{"fun o() = 1; fun g() = q(" + small + "); fun q(x) = p(x); " + p, "o g q[" + fits + "] p[" + fits + "]", api.Diag{}},
		{"fun o() = 1; fun g() = q(" + small + "); fun q(x) = p(ref(x)); " + p, "", api.Diag{Code: api.ErrLimit, Fun: 3}},
		// The first one whose turn comes
		{"fun g() = p(" + large + ") + s(" + large + "); " + p + s, "", api.Diag{Code: api.ErrLimit, Fun: 1}},
		{"fun g() = s(" + large + ") + p(" + large + "); " + p + s, "", api.Diag{Code: api.ErrLimit, Fun: 2}},
		{"fun g() = q(1) + r(1); fun q(x) = s(" + large + "); fun r(x) = p(" + large + "); " + p + s, "", api.Diag{Code: api.ErrLimit, Fun: 4}},
		{"fun g() = r(1) + q(1); fun q(x) = s(" + large + "); fun r(x) = p(" + large + "); " + p + s, "", api.Diag{Code: api.ErrLimit, Fun: 3}},
		{"fun g() = q(1); fun q(x) = s(" + large + "); fun h() = p(" + large + "); " + p + s, "", api.Diag{Code: api.ErrLimit, Fun: 3}},
	} {
		text, diag := expectDemand(t, parse(t, c.src))
		if text != c.want || diag != c.diag {
			t.Errorf("%s: %q, %v, want %q, %v", c.src, text, diag, c.want, c.diag)
		}
	}
	// Types that double, as no function says by itself. The note of f7 in f6 would be fn(x) -> int with x of 255 nodes.
	text := "fun main() = f0(1);"
	for f := range 22 {
		text += " fun f" + strconv.Itoa(f) + "(x) = f" + strconv.Itoa(f+1) + "((x, x));"
	}
	if _, diag := expectDemand(t, parse(t, text+" fun f22(x) = 0;")); diag != (api.Diag{Code: api.ErrLimit, Fun: 7}) {
		t.Error(diag)
	}
}

// TestExponentialDemand has functions that each name two instances of the next one, with twice as many ones at each step.
func TestExponentialDemand(t *testing.T) {
	text := "fun main() = f0(1);"
	for f := range 22 {
		next := "f" + strconv.Itoa(f+1)
		text += " fun f" + strconv.Itoa(f) + "(x) = " + next + "(ref(x)) + " + next + "(new(1, x));"
	}
	text += " fun f22(x) = 0;"
	// The instances are main, one of f0, 2, 4, 8, 16, 32 of the next ones, and the first of f6.
	if _, diag := expectDemand(t, parse(t, text)); diag != (api.Diag{Code: api.ErrLimit, Fun: 7}) {
		t.Error(diag)
	}
}

func TestErrorsOfTyping(t *testing.T) {
	for src, want := range map[string]api.Diag{
		"fun f(x) = x(x);":                           {Code: api.ErrType},
		"fun f() = 1; fun g() = 1 + true;":           {Code: api.ErrType, Fun: 1},
		"fun f() = 1; fun g() = (1, y);":             {Code: api.ErrName, Fun: 1, Node: 2},
		"fun f() = 1; fun g() = f(1);":               {Code: api.ErrArity, Fun: 1},
		"data A = B; data A = C; fun f() = 1;":       {Code: api.ErrDuplicate, Fun: -1, Node: 1},
		"data A = B(array(A)); fun f() = 1;":         {Code: api.ErrForm, Fun: -1},
		"fun a(x) = (x, x); fun b(x) = a(a(a(x)));":  {},
		"fun f() = let x = " + doubled(7) + " in 1;": {Code: api.ErrLimit},
	} {
		p := parse(t, src)
		if _, diag := expectDemand(t, p); diag != want {
			t.Errorf("%s: %v, want %v", src, diag, want)
		}
		if list, _ := special.Demand(p); len(list) > 0 {
			t.Errorf("%s: %v", src, list)
		}
	}
	invalid := api.Prog{Funs: []api.FunExpr{{Name: "F", Body: api.Expr{Op: api.EUnit}}}}
	if _, diag := expectDemand(t, invalid); diag != (api.Diag{Code: api.ErrInvalid, Fun: -1}) {
		t.Error(diag)
	}
}

// doubled returns an expression whose type has 2^(times+1) - 1 nodes.
func doubled(times int) string {
	if times == 0 {
		return "1"
	}
	return "(" + doubled(times-1) + ", " + doubled(times-1) + ")"
}

// TestRandomDemand compares Demand with the definition, and checks the consequences.
func TestRandomDemand(t *testing.T) {
	r := newForge(74)
	met := map[string]int{}
	for range 1000 {
		p := r.program()
		_, diag := expectDemand(t, p)
		list, _ := special.Demand(p)
		if diag.Code == api.OK {
			expectConsequences(t, p, list)
		}
		switch {
		case diag.Code != api.OK:
			met["limit"]++
		case len(list) > len(p.Funs):
			met["many"]++
		case strings.Contains(instanceTexts(p, list), "["):
			met["some"]++
		default:
			met["few"]++
		}
	}
	for _, kind := range []string{"many", "some", "few"} {
		if met[kind] < 50 {
			t.Error(met)
		}
	}
}

// expectConsequences expects what follows of a list of demanded instances.
func expectConsequences(t *testing.T, p api.Prog, list []api.Instance) {
	t.Helper()
	inferred, _ := typing.Infer(p)
	reached := map[int]bool{}
	for i, x := range list {
		reached[i] = reached[i] || inferred.Schemes[x.Fun].Vars == 0
		notes, ok := special.Notes(p, x)
		params, result, also := special.Params(p, x)
		if !ok || !also || !reached[i] || special.Find(list, x) != i {
			t.Fatalf("%s: %v has no place in the list", syntax.Format(p), x)
		}
		if !typing.Equal(notes[0].Type, result) || len(notes) != syntax.Nodes(p.Funs[x.Fun].Body) || len(params) != len(p.Funs[x.Fun].Params) {
			t.Errorf("%s: %v, %v, %v", syntax.Format(p), notes, params, result)
		}
		types := append(params, result)
		for _, note := range notes {
			types = append(append(types, note.Type), note.Args...)
		}
		for _, each := range types {
			if !typing.Ground(each) {
				t.Errorf("%s: %v has the type %v", syntax.Format(p), x, each)
			}
		}
		for _, each := range namings(p, x, notes) {
			at := special.Find(list, each.instance)
			reached[at] = true
			params, result, ok := special.Params(p, each.instance)
			if at < 0 || !ok || !typing.Equal(each.as, plain(api.TFun, append(params, result)...)) {
				t.Errorf("%s: %v names %v", syntax.Format(p), x, each)
			}
		}
	}
}
