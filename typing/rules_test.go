package typing_test

import (
	"cmp"
	"reflect"
	"slices"
	"testing"

	"amortcost/api"
	"amortcost/scope"
	"amortcost/typing"
)

// Rules R1, R4 and R5, and the consequences

// TestDeepTrees has trees of 2^16 levels, which no text has.
func TestDeepTrees(t *testing.T) {
	const deep = 1 << 16
	body, arg := api.Expr{Op: api.EInt}, api.TypeExpr{Kind: api.TInt}
	ground, open := integer, a0
	for range deep - 1 {
		body = api.Expr{Op: api.ERaise, Kids: []api.Expr{body}}
		arg = api.TypeExpr{Kind: api.TArray, Args: []api.TypeExpr{arg}}
		ground, open = plain(api.TRef, ground), plain(api.TRef, open)
	}
	for _, p := range []api.Prog{
		{Funs: []api.FunExpr{{Name: "f", Body: body}}},
		{Data: []api.DataExpr{{Name: "T", Cons: []api.ConExpr{{Name: "A", Args: []api.TypeExpr{arg}}}}}},
	} {
		if _, diag := typing.Infer(p); diag != (api.Diag{Code: api.ErrInvalid, Fun: -1}) {
			t.Error(diag)
		}
	}
	if typing.Size(ground) != deep || !typing.Equal(ground, ground) || typing.Equal(ground, open) || !typing.Ground(ground) || typing.Ground(open) {
		t.Error("deep types are not compared")
	}
	if !typing.Equal(typing.Subst(open, []api.Type{integer}), ground) || typing.Size(typing.Subst(open, []api.Type{open})) != 2*deep-1 {
		t.Error("nothing is put into a deep type")
	}
	if list, ok := typing.Match(open, ground); !ok || !same(list, []api.Type{integer}) {
		t.Error(list, ok)
	}
	if list, ok := typing.Match(a0, ground); !ok || len(list) != 1 || !typing.Equal(list[0], ground) {
		t.Error("a variable is no deep type")
	}
	if list, ok := typing.Match(ground, open); ok || len(list) > 0 {
		t.Error(list, ok)
	}
	data := []api.Data{{Vars: 1, Cons: []api.Con{{Args: []api.Type{open}}, {Args: []api.Type{a0}}}}}
	for c, arg := range []api.Type{integer, open} {
		if list, ok := typing.Fields(data, made(api.TData, 0, arg), c); ok || len(list) > 0 {
			t.Error("a field with a deep type")
		}
	}
	if typing.Valid(nil, ground, 0) || typing.Format(nil, ground) != "" {
		t.Error("a deep type is valid")
	}
}

func TestEmptyAndNilSlices(t *testing.T) {
	r := newForge(66)
	empty := func(v reflect.Value) {
		for _, each := range fields(v) {
			if each.Kind() == reflect.Slice && each.IsNil() {
				each.Set(reflect.MakeSlice(each.Type(), 0, 3))
			}
		}
	}
	for range 200 {
		p := r.program()
		q := copyOf(p)
		empty(reflect.ValueOf(&q).Elem())
		first, firstDiag := typing.Infer(p)
		second, secondDiag := typing.Infer(q)
		if firstDiag != secondDiag || !same(first, second) {
			t.Errorf("%v: %v, %v", p, firstDiag, secondDiag)
		}
	}
	for range 1000 {
		a, args, data := r.anyType(2), []api.Type{r.anyType(2)}, samples()
		b := definedSubst(a, args)
		c := copyOf(a)
		empty(reflect.ValueOf(&c).Elem())
		empty(reflect.ValueOf(&data).Elem())
		match, ok := typing.Match(a, b)
		other, otherOk := typing.Match(c, b)
		if !typing.Equal(a, c) || !typing.Equal(c, a) || ok != otherOk || !same(match, other) || !same(typing.Subst(c, args), b) || typing.Valid(data, c, 2) != typing.Valid(samples(), a, 2) || typing.Format(data, c) != typing.Format(samples(), a) || typing.Size(a) != typing.Size(c) {
			t.Errorf("%v", a)
		}
	}
	list := []api.Data{{Cons: []api.Con{{Args: []api.Type{}}}}}
	if fields, ok := typing.Fields(list, made(api.TData, 0, []api.Type{}...), 0); !ok || len(fields) > 0 {
		t.Error(fields, ok)
	}
}

// scramble overwrites a result everywhere, also behind the ends of its slices.
func scramble(v reflect.Value) {
	for _, each := range fields(v) {
		switch each.Kind() {
		case reflect.Slice:
			extended := each.Slice(0, each.Cap())
			for i := each.Len(); i < each.Cap(); i++ {
				extended.Index(i).SetZero()
			}
		default:
			each.SetInt(-9)
		}
	}
}

// expectFresh overwrites a result and expects the same one again, and the arguments as they were.
func expectFresh[A, B any](t *testing.T, arg A, call func(A) B) {
	t.Helper()
	before := copyOf(arg)
	first := call(arg)
	want := copyOf(first)
	second := call(arg)
	scramble(reflect.ValueOf(&first).Elem())
	third := call(arg)
	if !same(second, want) || !same(third, want) || !same(arg, before) {
		t.Errorf("%v, %v, want %v", second, third, want)
	}
	expectSeparate(t, second)
}

// expectSeparate expects that no two slices of a result share memory, also behind their ends.
func expectSeparate[T any](t *testing.T, result T) {
	t.Helper()
	var list [][2]uintptr
	for _, v := range fields(reflect.ValueOf(&result).Elem()) {
		if v.Kind() == reflect.Slice && v.Cap() > 0 {
			list = append(list, [2]uintptr{v.Pointer(), v.Pointer() + uintptr(v.Cap())*v.Type().Elem().Size()})
		}
	}
	slices.SortFunc(list, func(a, b [2]uintptr) int { return cmp.Compare(a[0], b[0]) })
	for i := 1; i < len(list); i++ {
		if list[i][0] < list[i-1][1] {
			t.Errorf("%v shares memory", result)
		}
	}
}

func TestResultsAreIndependent(t *testing.T) {
	r := newForge(67)
	for range 200 {
		expectFresh(t, r.program(), func(p api.Prog) api.Typing {
			got, _ := typing.Infer(p)
			return got
		})
	}
	type several struct {
		Of, Other api.Type
		Args      []api.Type
		Data      []api.Data
	}
	for range 500 {
		arg := several{Of: r.anyType(2), Args: []api.Type{r.anyType(1), r.anyType(1)}, Data: samples()}
		arg.Other = definedSubst(arg.Of, arg.Args)
		expectFresh(t, arg, func(s several) api.Type { return typing.Subst(s.Of, s.Args) })
		expectFresh(t, arg, func(s several) []api.Type {
			list, _ := typing.Match(s.Of, s.Other)
			return list
		})
		expectFresh(t, arg, func(s several) []api.Type {
			list, _ := typing.Fields(s.Data, made(api.TData, 1, s.Args...), 0)
			return list
		})
		expectFresh(t, arg, func(s several) []int {
			for _, truth := range []bool{typing.Equal(s.Of, s.Other), typing.Ground(s.Of), typing.Valid(s.Data, s.Of, 1), typing.Format(s.Data, s.Of) == ""} {
				if truth {
					return []int{typing.Size(s.Of)}
				}
			}
			return nil
		})
	}
	// One type in several places of the arguments and of the results.
	inner := []api.Type{integer, a0}
	shared := pair(plain(api.TTuple, inner...), plain(api.TTuple, inner...))
	args := []api.Type{shared, shared}
	for _, list := range [][]api.Type{{typing.Subst(pair(a0, pair(a0, a1)), args)}, {typing.Subst(shared, args)}} {
		expectSeparate(t, list)
	}
	list, _ := typing.Match(pair(a0, pair(a0, a1)), pair(shared, pair(shared, shared)))
	expectSeparate(t, list)
	list, _ = typing.Fields([]api.Data{{Vars: 1, Cons: []api.Con{{Args: []api.Type{shared, a0, a0, pair(a0, a0)}}}}}, made(api.TData, 0, shared), 0)
	expectSeparate(t, list)
}

// TestRenaming gives other names to everything, which changes nothing.
func TestRenaming(t *testing.T) {
	r := newForge(69)
	for range 500 {
		p := r.program()
		q := copyOf(p)
		for _, v := range fields(reflect.ValueOf(&q).Elem()) {
			if v.Kind() == reflect.String && v.Len() > 0 {
				v.SetString(v.String() + "_new")
			}
		}
		first, firstDiag := typing.Infer(p)
		second, secondDiag := typing.Infer(q)
		if firstDiag != secondDiag || !same(first, second) {
			t.Errorf("%v: %v, %v", p, firstDiag, secondDiag)
		}
	}
}

// TestOrderOfFunctions has the functions in another order, each with the same scheme and the same notes.
func TestOrderOfFunctions(t *testing.T) {
	r := newForge(70)
	for range 500 {
		p := r.program()
		q := copyOf(p)
		order := r.Perm(len(p.Funs))
		for to, from := range order {
			q.Funs[to] = p.Funs[from]
		}
		first, firstDiag := typing.Infer(p)
		second, secondDiag := typing.Infer(q)
		if (firstDiag.Code == api.OK) != (secondDiag.Code == api.OK) {
			t.Errorf("%v: %v, %v", p, firstDiag, secondDiag)
			continue
		}
		for to, from := range order[:len(second.Schemes)] {
			if !same(second.Schemes[to], first.Schemes[from]) || !same(second.Notes[to], first.Notes[from]) {
				t.Errorf("%v: function %d", p, from)
			}
		}
	}
}

// TestInstances compares the types that a function can have with the instances of its scheme.
func TestInstances(t *testing.T) {
	r := newForge(71)
	instances, others := 0, 0
	for range 2000 {
		p := r.program()
		got, diag := typing.Infer(p)
		if diag.Code != api.OK || len(p.Funs) == 0 {
			continue
		}
		f := r.Intn(len(p.Funs))
		scheme := plain(api.TFun, wholeOf(got.Schemes[f])...)
		var args []api.Type
		for range got.Schemes[f].Vars {
			args = append(args, r.typ(r.Intn(2), 0))
		}
		wanted := copyOf(definedSubst(scheme, args))
		if r.Intn(2) == 0 {
			r.replaceNode(&wanted.Args[r.Intn(len(wanted.Args))])
		}
		_, isInstance := typing.Match(scheme, wanted)
		if can := canHave(p, got, f, wanted); can != isInstance {
			t.Errorf("%v, function %d: %v is an instance of %v: %v", p, f, wanted, scheme, isInstance)
		}
		if isInstance {
			instances++
		} else {
			others++
		}
	}
	if instances < 300 || others < 200 {
		t.Error(instances, others)
	}
}

// canHave reports whether a function can have a type, together with the other functions of its group.
func canHave(p api.Prog, got api.Typing, f int, wanted api.Type) bool {
	own := map[string][]*cell{}
	for _, group := range scope.Groups(p) {
		if slices.Contains(group, f) {
			for _, g := range group {
				own[p.Funs[g].Name] = cells(len(p.Funs[g].Params) + 1)
			}
		}
	}
	own[p.Funs[f].Name] = putAll(wanted.Args, nil)
	s := solverOf(p, own, got.Schemes)
	for _, fun := range p.Funs {
		if own[fun.Name] != nil {
			s.function(fun, own[fun.Name])
		}
	}
	return !s.failed
}
