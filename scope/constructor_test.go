package scope_test

import (
	"math"
	"testing"

	"amortcost/api"
	"amortcost/scope"
)

// Promise 5.4

func TestConstructor(t *testing.T) {
	cons := func(names ...string) api.Data {
		var d api.Data
		for _, name := range names {
			d.Cons = append(d.Cons, api.Con{Name: name})
		}
		return d
	}
	data := []api.Data{cons("A", "B"), cons(), cons("C", "B", "D", "D"), cons("A", "", "E F", "e")}
	for _, c := range []struct {
		name string
		d, c int
		ok   bool
	}{
		{"A", 0, 0, true}, {"B", 0, 1, true}, {"C", 2, 0, true}, {"D", 2, 2, true}, {"", 3, 1, true}, {"E F", 3, 2, true}, {"e", 3, 3, true},
		{"E", 0, 0, false}, {"a", 0, 0, false}, {"A ", 0, 0, false}, {"L", 0, 0, false},
	} {
		if d, con, ok := scope.Constructor(data, c.name); d != c.d || con != c.c || ok != c.ok {
			t.Errorf("%q: %d, %d, %v", c.name, d, con, ok)
		}
		if d, con, ok := scope.Constructor(nil, c.name); d != 0 || con != 0 || ok {
			t.Errorf("%q: %d, %d, %v", c.name, d, con, ok)
		}
	}
	// The name of a data type is not the name of a constructor.
	if d, con, ok := scope.Constructor([]api.Data{{Name: "T", Cons: []api.Con{{Name: "A"}}}}, "T"); d != 0 || con != 0 || ok {
		t.Error(d, con, ok)
	}
}

func TestConstructorsOfPrograms(t *testing.T) {
	p := parse(t, "data L(a) = N | C(a, L(a)); data T = A | B(T, int, T);")
	data, _ := scope.Data(p)
	for d := range p.Data {
		for c, con := range p.Data[d].Cons {
			if gotD, gotC, ok := scope.Constructor(data, con.Name); gotD != d || gotC != c || !ok {
				t.Errorf("%s: %d, %d, %v", con.Name, gotD, gotC, ok)
			}
		}
	}
	for _, c := range []struct {
		d, c int
		want []bool
	}{
		{0, 0, nil}, {0, 1, []bool{false, true}}, {1, 0, nil}, {1, 1, []bool{true, false, true}},
		{0, 2, nil}, {2, 0, nil}, {-1, 0, nil}, {0, -1, nil}, {1, 2, nil}, {math.MaxInt, 0, nil}, {0, math.MaxInt, nil}, {math.MinInt, math.MinInt, nil},
	} {
		if got := scope.Recursive(data, c.d, c.c); !same(got, c.want) {
			t.Errorf("%d, %d: %v, want %v", c.d, c.c, got, c.want)
		}
	}
	if got := scope.Recursive(nil, 0, 0); len(got) > 0 {
		t.Error(got)
	}
}

// TestRecursive has arguments of all sorts, also such as no program has.
func TestRecursive(t *testing.T) {
	made := func(kind, num int, args ...api.Type) api.Type { return api.Type{Kind: kind, Num: num, Args: args} }
	a, b, c := made(api.TVar, 0), made(api.TVar, 1), made(api.TVar, 2)
	for _, each := range []struct {
		vars int
		arg  api.Type
		want bool
	}{
		{0, made(api.TData, 1), true}, {0, made(api.TData, 0), false}, {0, made(api.TData, 2), false}, {0, made(api.TData, -1), false}, {0, made(api.TData, 1, a), false},
		{1, made(api.TData, 1), false}, {1, made(api.TData, 1, a), true}, {1, made(api.TData, 0, a), false}, {1, made(api.TData, 1, b), false}, {1, made(api.TData, 1, a, b), false},
		{1, made(api.TData, 1, made(api.TInt, 0)), false}, {1, made(api.TData, 1, made(api.TData, 1, a)), false}, {1, made(api.TData, 1, made(api.TVar, -1)), false},
		{2, made(api.TData, 1, a, b), true}, {2, made(api.TData, 1, b, a), false}, {2, made(api.TData, 1, a, a), false}, {2, made(api.TData, 1, b, b), false}, {2, made(api.TData, 1, a), false}, {2, made(api.TData, 1, a, b, c), false},
		{3, made(api.TData, 1, a, b, c), true}, {3, made(api.TData, 1, a, c, b), false}, {3, made(api.TData, 1, b, c, made(api.TVar, 3)), false},
		{1, made(api.TArray, 1, a), false}, {1, made(api.TArray, 0, made(api.TData, 1, a)), false}, {1, made(api.TVar, 1, a), false}, {0, api.Type{}, false}, {0, made(api.TInt, 1), false},
		{-1, made(api.TData, 1), false}, {-1, made(api.TData, 1, a), false}, {math.MinInt, made(api.TData, 1), false}, {math.MaxInt, made(api.TData, 1, a, b), false},
		// TVar 0 is a type without arguments.
		{1, made(api.TData, 1, made(api.TVar, 0, a)), false}, {2, made(api.TData, 1, a, made(api.TVar, 1, b)), false},
	} {
		data := []api.Data{{Vars: each.vars}, {Vars: each.vars, Cons: []api.Con{{}, {Args: []api.Type{made(api.TInt, 0), each.arg, made(api.TData, 7)}}}}}
		if got := scope.Recursive(data, 1, 1); !same(got, []bool{false, each.want, false}) {
			t.Errorf("%d, %v: %v", each.vars, each.arg, got)
		}
	}
}

// TestRecursiveAgreesWithText compares with what the declarations look like.
func TestRecursiveAgreesWithText(t *testing.T) {
	r := newForge(55)
	count := 0
	for range 1000 {
		p := r.program()
		data, _ := scope.Data(p)
		for d, decl := range p.Data {
			for c, con := range decl.Cons {
				var want []bool
				for _, arg := range con.Args {
					// In a program without errors a data type names itself in recursive arguments only.
					want = append(want, arg.Name == decl.Name)
					if arg.Name == decl.Name {
						count++
					}
				}
				if got := scope.Recursive(data, d, c); !same(got, want) {
					t.Errorf("%v: %v, want %v", con, got, want)
				}
			}
		}
	}
	if count < 500 {
		t.Error(count)
	}
}
