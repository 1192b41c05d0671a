package scope_test

import (
	"strings"
	"testing"

	"amortcost/api"
	"amortcost/scope"
)

// Promise 5.3

func TestCallsAndGroups(t *testing.T) {
	for _, c := range []struct {
		src           string
		calls, groups [][]int
	}{
		{"", nil, nil},
		{"data T = A;", nil, nil},
		{"fun f() = 1;", [][]int{{}}, [][]int{{0}}},
		{"fun f() = f();", [][]int{{0}}, [][]int{{0}}},
		{"fun f() = g(); fun g() = (f(), h()); fun h() = 1;", [][]int{{1}, {0, 2}, {}}, [][]int{{2}, {0, 1}}},
		// Each function once, ascending, whatever the order of the names is, and wherever they stand.
		{"fun f() = (h, g, h, f, g); fun g() = 1; fun h() = 2;", [][]int{{0, 1, 2}, {}, {}}, [][]int{{1}, {2}, {0}}},
		{"data T = A | B(int); fun f(x) = match i(x) with A -> g(x) | B(_) -> fn() -> h end; fun g(x) = 1; fun h(x) = 2; fun i(x) = 3;", [][]int{{1, 2, 3}, {}, {}, {}}, [][]int{{1}, {2}, {3}, {0}}},
		{"fun f() = try raise(g) catch x -> h end; fun g() = let _ = h in g; fun h() = get(new(1, i), i()); fun i() = 3;", [][]int{{1, 2}, {1, 2}, {3}, {}}, [][]int{{3}, {2}, {1}, {0}}},
		// A name that is bound names no function.
		{"fun f(g) = g(h); fun g() = let h = 1 in h; fun h() = fn(f) -> f(1);", [][]int{{2}, {}, {}}, [][]int{{1}, {2}, {0}}},
		{"fun f() = let g = g in g; fun g() = 1;", [][]int{{1}, {}}, [][]int{{1}, {0}}},
		// The group with the least least member comes first, of those that name nothing but themselves and listed groups.
		{"fun a() = d; fun b() = 1; fun c() = 2; fun d() = 3;", [][]int{{3}, {}, {}, {}}, [][]int{{1}, {2}, {3}, {0}}},
		{"fun a() = c; fun b() = d; fun c() = a; fun d() = b;", [][]int{{2}, {3}, {0}, {1}}, [][]int{{0, 2}, {1, 3}}},
		{"fun a() = c; fun b() = d; fun c() = (a, b); fun d() = b;", [][]int{{2}, {3}, {0, 1}, {1}}, [][]int{{1, 3}, {0, 2}}},
		{"fun a() = e; fun b() = c; fun c() = 1; fun d() = 1; fun e() = 1;", [][]int{{4}, {2}, {}, {}, {}}, [][]int{{2}, {1}, {3}, {4}, {0}}},
		{"fun a() = (b, c); fun b() = d; fun c() = d; fun d() = d;", [][]int{{1, 2}, {3}, {3}, {3}}, [][]int{{3}, {1}, {2}, {0}}},
		{"fun a() = b; fun b() = c; fun c() = d; fun d() = a; fun e() = a;", [][]int{{1}, {2}, {3}, {0}, {0}}, [][]int{{0, 1, 2, 3}, {4}}},
	} {
		p := parse(t, c.src)
		if calls := scope.Calls(p); !same(calls, c.calls) {
			t.Errorf("%s: %v, want %v", c.src, calls, c.calls)
		}
		if groups := scope.Groups(p); !same(groups, c.groups) {
			t.Errorf("%s: %v, want %v", c.src, groups, c.groups)
		}
		expectDefined(t, p)
	}
}

// TestNoListsBehindErrors has an error of each function and of the declarations.
func TestNoListsBehindErrors(t *testing.T) {
	for _, src := range []string{"fun f() = g; fun g() = x;", "fun f() = x; fun g() = f;", "fun f() = 1; fun f() = f;", "fun f() = f(1);", "data T = A | A; fun f() = f;"} {
		p := parse(t, src)
		if calls, groups := scope.Calls(p), scope.Groups(p); len(calls) > 0 || len(groups) > 0 {
			t.Errorf("%s: %v, %v", src, calls, groups)
		}
	}
}

// graphProgram returns a program whose functions name those that the graph leads to.
func graphProgram(next [][]int) api.Prog {
	var p api.Prog
	name := func(f int) string { return "f_" + string(rune('a'+f)) }
	for f := range next {
		body := api.Expr{Op: api.EUnit}
		for _, g := range next[f] {
			body = api.Expr{Op: api.ELet, Kids: []api.Expr{{Op: api.EVar, Name: name(g)}, body}}
		}
		p.Funs = append(p.Funs, api.FunExpr{Name: name(f), Body: body})
	}
	return p
}

func expectGroups(t *testing.T, next [][]int) {
	t.Helper()
	p := graphProgram(next)
	if calls := scope.Calls(p); !same(calls, next) {
		t.Errorf("%v: Calls: %v", next, calls)
	}
	if groups, want := scope.Groups(p), definedGroups(next); !same(groups, want) {
		t.Errorf("%v: %v, want %v", next, groups, want)
	}
}

// TestSmallGraphs has every graph of at most four functions.
func TestSmallGraphs(t *testing.T) {
	for n := range 5 {
		for edges := range 1 << (n * n) {
			next := make([][]int, n)
			for f := range n {
				for g := range n {
					if edges>>(f*n+g)&1 != 0 {
						next[f] = append(next[f], g)
					}
				}
			}
			expectGroups(t, next)
		}
	}
}

// TestLargeGraphs has graphs of up to 24 functions, with few and with many edges.
func TestLargeGraphs(t *testing.T) {
	r := newForge(53)
	for range 2000 {
		n := 1 + r.Intn(api.MaxFuns)
		next := make([][]int, n)
		dense := 1 + r.Intn(3*n)
		for f := range n {
			for g := range n {
				// A body has at most 40 levels and a program 600 nodes.
				if r.Intn(3*n) < dense && len(next[f]) < 11 {
					next[f] = append(next[f], g)
				}
			}
		}
		expectGroups(t, next)
	}
	// A ring in either direction, and a chain in either direction.
	for _, step := range []int{1, api.MaxFuns - 1} {
		ring, chain := make([][]int, api.MaxFuns), make([][]int, api.MaxFuns)
		for f := range ring {
			ring[f] = []int{(f + step) % api.MaxFuns}
			if g := ring[f][0]; (g > f) == (step == 1) {
				chain[f] = []int{g}
			}
		}
		expectGroups(t, ring)
		expectGroups(t, chain)
	}
}

// TestGroupsStandBehindThoseTheyName is the chapter's consequence.
func TestGroupsStandBehindThoseTheyName(t *testing.T) {
	r := newForge(54)
	for range 500 {
		p := r.program()
		calls, groups := scope.Calls(p), scope.Groups(p)
		groupOf := map[int]int{}
		for i, group := range groups {
			for _, f := range group {
				if _, again := groupOf[f]; again {
					t.Errorf("%v: function %d stands in two groups", groups, f)
				}
				groupOf[f] = i
			}
		}
		for f := range p.Funs {
			if _, there := groupOf[f]; !there {
				t.Errorf("%v: function %d stands in no group", groups, f)
			}
			for _, g := range calls[f] {
				if groupOf[g] > groupOf[f] {
					t.Errorf("%v, %v: function %d names a later group", calls, groups, f)
				}
			}
		}
	}
}

// TestNamesDoNotMatter renames functions.
func TestNamesDoNotMatter(t *testing.T) {
	const src = "fun f1() = f2(); fun f2() = (f1(), f3()); fun f3() = let x = f4 in x(1); fun f4(y) = y;"
	renamed := strings.NewReplacer("f1", "zz", "f2", "b", "f3", "x1", "f4", "a_").Replace(src)
	if first, second := scope.Groups(parse(t, src)), scope.Groups(parse(t, renamed)); !same(first, second) || len(first) != 3 {
		t.Errorf("%v, %v", first, second)
	}
}
