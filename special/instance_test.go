package special_test

import (
	"strings"
	"testing"

	"amortcost/api"
	"amortcost/scope"
	"amortcost/special"
	"amortcost/syntax"
	"amortcost/typing"
)

// Promises 7.1 and 7.3

const lists = "data L(a) = N | C(a, L(a)); "

var (
	integer = api.Type{Kind: api.TInt}
	truth   = api.Type{Kind: api.TBool}
	unit    = api.Type{Kind: api.TUnit}
)

func made(kind, num int, args ...api.Type) api.Type {
	return api.Type{Kind: kind, Num: num, Args: args}
}

func plain(kind int, args ...api.Type) api.Type {
	return made(kind, 0, args...)
}

func instance(fun int, args ...api.Type) api.Instance {
	return api.Instance{Fun: fun, Args: args}
}

// nodes returns a type with this number of nodes.
func nodes(count int) api.Type {
	t := integer
	for range count - 1 {
		t = plain(api.TRef, t)
	}
	return t
}

func parse(t *testing.T, src string) api.Prog {
	t.Helper()
	p, at, refusal := syntax.Parse(src)
	if refusal != api.OK {
		t.Fatalf("%q: %d at %d", src, refusal, at)
	}
	return p
}

// expectInstance compares Notes and Params with the definition, and returns whether there is such an instance.
func expectInstance(t *testing.T, p api.Prog, x api.Instance) bool {
	t.Helper()
	var got, other defined
	got.Notes, got.OK = special.Notes(p, x)
	got.Params, got.Result, other.OK = special.Params(p, x)
	want := definedInstance(p, x)
	if got.OK != other.OK || !same(got, want) {
		t.Errorf("%s: %v: %v and %v, want %v", syntax.Format(p), x, got, other.OK, want)
	}
	return want.OK
}

func TestNotes(t *testing.T) {
	polymorphic := "fun id(x) = x; fun f(y) = (id(y), id(1)); fun g() = f(true);"
	for _, c := range []struct {
		src                   string
		x                     api.Instance
		notes, params, result string
	}{
		{polymorphic, instance(0, integer), "int", "int", "int"},
		{polymorphic, instance(0, plain(api.TFun, unit)), "fn() -> unit", "fn() -> unit", "fn() -> unit"},
		{polymorphic, instance(1, truth), "(bool, int); bool; fn(bool) -> bool [bool]; bool; int; fn(int) -> int [int]; int", "bool", "(bool, int)"},
		{polymorphic, instance(2), "(bool, int); fn(bool) -> (bool, int) [bool]; bool", "", "(bool, int)"},
		{"fun k(x, y, z) = (z, x);", instance(0, integer, truth, unit), "(unit, int); unit; int", "int, bool, unit", "(unit, int)"},
		{"fun k(x, y) = let _ = fn(z) -> z in y(x);", instance(0, integer, truth), "bool; fn(unit) -> unit; unit; bool; fn(int) -> bool; int", "int, fn(int) -> bool", "bool"},
		{"fun f(x) = g(x); fun g(y) = f(y);", instance(0, integer, truth), "bool; fn(int) -> bool [int, bool]; int", "int", "bool"},
		{"fun f(x) = g(); fun g() = let _ = fn(y) -> f((y, y)) in 1;", instance(0, truth), "int; fn() -> int", "(bool, bool)", "int"},
		{"fun f(x) = g(); fun g() = let _ = fn(y) -> f((y, y)) in 1;", instance(1), "int; fn(unit) -> int; int; fn((unit, unit)) -> int [unit]; (unit, unit); unit; unit; int", "", "int"},
		{lists + "fun f(l) = match l with N -> raise(1) | C(x, _) -> x end;", instance(0, made(api.TData, 0, truth)), "L(bool); L(L(bool)); L(bool); int; L(bool)", "L(L(bool))", "L(bool)"},
		{lists + "fun f() = C(1, N);", instance(0), "L(int); int; L(int)", "", "L(int)"},
	} {
		p := parse(t, c.src)
		notes, ok := special.Notes(p, c.x)
		if text := noteTexts(p, notes); text != c.notes || !ok {
			t.Errorf("%s: %q, %v, want %q", c.src, text, ok, c.notes)
		}
		params, result, ok := special.Params(p, c.x)
		if text := typeTexts(p, params); text != c.params || typeTexts(p, []api.Type{result}) != c.result || !ok {
			t.Errorf("%s: %q, %v, %v, want %q, %q", c.src, text, result, ok, c.params, c.result)
		}
		expectInstance(t, p, c.x)
	}
}

func TestNoInstance(t *testing.T) {
	const one = lists + "fun f(x) = 1; fun g() = 1; fun h(x, y) = 1; "
	v := made(api.TVar, 0)
	for _, c := range []struct {
		src string
		x   api.Instance
	}{
		// An error of typing, wherever it is
		{"fun f(x) = 1; fun g(x) = x(x);", instance(0, integer)},
		{"fun f() = 1; fun g() = y;", instance(0)},
		{"fun f() = 1; fun f() = 1;", instance(0)},
		{"data L = N | N; fun f() = 1;", instance(0)},
		// No function
		{one, instance(-1, integer)},
		{one, instance(3, integer)},
		{one, instance(-1)},
		{one, instance(1 << 62)},
		{one, instance(-1 << 63)},
		{"", instance(0)},
		// Not one type for each variable
		{one, instance(0)},
		{one, instance(0, integer, integer)},
		{one, instance(1, integer)},
		{one, instance(2)},
		{one, instance(2, integer)},
		{one, instance(2, integer, integer, integer)},
		// Not ground
		{one, instance(0, v)},
		{one, instance(2, integer, v)},
		{one, instance(2, v, integer)},
		{one, instance(0, plain(api.TRef, v))},
		{one, instance(0, made(api.TData, 0, v))},
		{one, instance(0, made(api.TVar, 0, integer))},
		{one, instance(0, made(api.TVar, -1))},
		// Not valid
		{one, instance(0, api.Type{})},
		{one, instance(0, made(api.TInt, 1))},
		{one, instance(0, plain(api.TInt, integer))},
		{one, instance(0, plain(10, integer))},
		{one, instance(0, plain(-1))},
		{one, instance(0, plain(api.TTuple, integer))},
		{one, instance(0, plain(api.TFun))},
		{one, instance(0, plain(api.TRef))},
		{one, instance(0, made(api.TData, 0))},
		{one, instance(0, made(api.TData, 1, integer))},
		{one, instance(0, made(api.TData, -1, integer))},
		{one, instance(0, made(api.TData, 0, integer, integer))},
		{one, instance(2, integer, plain(api.TArray, plain(api.TArray)))},
		// Too large by itself
		{one, instance(0, nodes(201))},
		{one, instance(2, nodes(200), nodes(201))},
		{one, instance(0, nodes(100000))},
	} {
		p, _, _ := syntax.Parse(c.src)
		notes, ok := special.Notes(p, c.x)
		params, result, also := special.Params(p, c.x)
		if ok || also || len(notes)+len(params) > 0 || !same(result, api.Type{}) {
			t.Errorf("%s: %v: %v, %v, %v, %v, %v", c.src, c.x, notes, ok, params, result, also)
		}
		expectInstance(t, p, c.x)
	}
	p := parse(t, one)
	for _, x := range []api.Instance{instance(0, nodes(200)), instance(1), instance(2, nodes(200), nodes(200))} {
		if !expectInstance(t, p, x) {
			t.Error(x)
		}
	}
	if _, ok := special.Notes(api.Prog{Funs: []api.FunExpr{{}}}, instance(0)); ok {
		t.Error("an instance of an invalid program")
	}
}

// TestLargeTypes has instances with types of as many nodes as there may be, and of one more where there is such a number.
func TestLargeTypes(t *testing.T) {
	for _, c := range []struct {
		src        string
		most, next int
	}{
		{"fun f(x) = x;", 200, 201},
		// A note: of the whole body, of its first part, of its last part, of a part whose type is that of no name.
		{"fun f(x) = ref(x);", 199, 200},
		{"fun f(x) = (x, x);", 99, 100},
		{"fun f(x) = let _ = ref(x) in 1;", 199, 200},
		{"fun f(x) = let _ = (x, x) in 1;", 99, 100},
		{"fun f(x) = let _ = x in let _ = 1 in let _ = ref(ref(x)) in 1;", 198, 199},
		{"fun f(x) = let _ = fn() -> x in 1;", 199, 200},
		{"fun f(x) = if true then 1 else let _ = (x, 1, true) in 1;", 197, 198},
		{lists + "fun f(x) = match N with N -> 1 | C(y, _) -> if true then 1 else let _ = C(x, N) in y end;", 199, 200},
		// The type of a named function, with Args of its own
		{"fun f(x) = id(x); fun id(x) = x;", 99, 100},
		{"fun f(x) = 1 + k(x); fun k(x) = 1;", 198, 199},
		{"fun f(x) = 1 + k((x, x)); fun k(x) = 1;", 98, 99},
		// A parameter that no note has
		{"fun f(x) = g(); fun g() = let _ = fn(y) -> f((y, y)) in 1;", 99, 100},
		{"fun f(x) = g(); fun g() = let _ = fn(y) -> f(ref(y)) in 1;", 199, 200},
		{"fun f(x, z) = g(); fun g() = let _ = fn(y) -> f(1, ref(y)) in 1;", 199, 200},
		// Each type is limited by itself.
		{"fun f(x) = g(); fun g() = let _ = fn(y) -> f(y) in 1;", 200, 201},
		{"fun f(x) = let _ = x in let _ = x in x;", 200, 201},
	} {
		p := parse(t, c.src)
		if !expectInstance(t, p, instance(0, nodes(c.most))) || expectInstance(t, p, instance(0, nodes(c.next))) {
			t.Errorf("%s: not a limit of %d nodes", c.src, c.most)
		}
	}
}

// TestSeveralVariables has instances whose types are limited by one of several variables.
func TestSeveralVariables(t *testing.T) {
	p := parse(t, "fun f(x, y, z) = let _ = (x, y) in let _ = (y, z) in 1;")
	for _, c := range []struct {
		x, y, z int
		ok      bool
	}{
		{100, 99, 100, true}, {101, 99, 100, false}, {100, 99, 101, false}, {100, 100, 1, false}, {1, 100, 100, false}, {198, 1, 198, true}, {199, 1, 1, false}, {1, 1, 199, false}, {1, 198, 1, true}, {1, 199, 1, false},
	} {
		if expectInstance(t, p, instance(0, nodes(c.x), nodes(c.y), nodes(c.z))) != c.ok {
			t.Error(c)
		}
	}
}

// TestEnormousInstances has instances whose types have up to 40,000 nodes.
func TestEnormousInstances(t *testing.T) {
	big := nodes(200)
	tuple := "(" + strings.Repeat("x, ", 5) + "x)"
	wide := "(" + strings.Repeat(tuple+", ", 5) + tuple + ")"
	for _, src := range []string{
		"fun f(x) = " + wide + ";",
		"fun f(x) = let _ = " + strings.Repeat("let _ = "+wide+" in ", 8) + "1 in 2;",
		"fun f(x) = let y = " + tuple + " in let z = (y, y, y, y, y) in let _ = (z, z, z, z) in " + strings.Repeat("let _ = (z, z, z, z, z) in ", 20) + "1;",
	} {
		if expectInstance(t, parse(t, src), instance(0, big)) {
			t.Error(src)
		}
	}
	// All types are as large as they may be.
	p := parse(t, "fun f(x) = "+strings.Repeat("let _ = (x, x, x, x, x, x) in ", 38)+"x;")
	if !expectInstance(t, p, instance(0, nodes(33))) || expectInstance(t, p, instance(0, nodes(34))) {
		t.Error("38 tuples")
	}
}

func TestFind(t *testing.T) {
	pair := plain(api.TTuple, integer, truth)
	list := []api.Instance{instance(1), instance(0, integer), instance(0, pair), instance(1), instance(0, truth, integer), instance(-5, api.Type{}), instance(0, pair), instance(0, made(77, -3, plain(api.TInt, truth)))}
	for _, c := range []struct {
		x    api.Instance
		want int
	}{
		{instance(1), 0},
		{api.Instance{Fun: 1, Args: []api.Type{}}, 0},
		{instance(0, integer), 1},
		{instance(0, pair), 2},
		{instance(0, plain(api.TTuple, integer, truth)), 2},
		{instance(0, truth, integer), 4},
		{instance(-5, api.Type{}), 5},
		{instance(0, made(77, -3, plain(api.TInt, truth))), 7},
		{instance(0), -1},
		{instance(2), -1},
		{instance(1, integer), -1},
		{instance(0, truth), -1},
		{instance(0, integer, truth), -1},
		{instance(0, truth, integer, integer), -1},
		{instance(0, plain(api.TTuple, truth, integer)), -1},
		{instance(0, plain(api.TTuple, integer)), -1},
		{instance(0, plain(api.TTuple, integer, truth, truth)), -1},
		{instance(0, made(api.TTuple, 1, integer, truth)), -1},
		{instance(0, plain(api.TTuple, integer, plain(api.TBool, truth))), -1},
		{instance(0, plain(api.TTuple, integer, made(api.TBool, 1))), -1},
		{instance(0, plain(api.TArray, integer)), -1},
		{instance(-5), -1},
		{instance(0, made(77, -3, plain(api.TInt, unit))), -1},
		{api.Instance{}, -1},
	} {
		if got := special.Find(list, c.x); got != c.want || got != position(list, c.x) {
			t.Errorf("%v: %d, want %d", c.x, got, c.want)
		}
		if got := special.Find(nil, c.x); got != -1 {
			t.Errorf("%v: %d in no list", c.x, got)
		}
	}
}

// TestFindInRandomLists has types that need not be valid.
func TestFindInRandomLists(t *testing.T) {
	r := newForge(72)
	met := map[bool]int{}
	for range 20000 {
		var list []api.Instance
		for range r.Intn(6) {
			list = append(list, r.instance())
		}
		x := r.instance()
		got := special.Find(list, x)
		if want := position(list, x); got != want {
			t.Errorf("%v in %v: %d, want %d", x, list, got, want)
		}
		met[got > 0]++
	}
	if met[true] < 500 || met[false] < 500 {
		t.Error(met)
	}
}

// TestRandomInstances compares instances of random programs with the definition, for types that may be valid.
func TestRandomInstances(t *testing.T) {
	r := newForge(73)
	met := map[bool]int{}
	for range 300 {
		p := r.program()
		inferred, _ := typing.Infer(p)
		data, _ := scope.Data(p)
		for range 10 {
			x := api.Instance{Fun: r.Intn(len(p.Funs)+2) - 1}
			count := r.Intn(3)
			if x.Fun >= 0 && x.Fun < len(inferred.Schemes) && r.Intn(4) > 0 {
				count = inferred.Schemes[x.Fun].Vars
			}
			for range count {
				x.Args = append(x.Args, r.typ(len(data), r.Intn(7)))
			}
			met[expectInstance(t, p, x)]++
		}
	}
	if met[true] < 500 || met[false] < 500 {
		t.Error(met)
	}
}
