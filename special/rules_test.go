package special_test

import (
	"cmp"
	"reflect"
	"slices"
	"testing"

	"amortcost/api"
	"amortcost/special"
	"amortcost/syntax"
	"amortcost/typing"
)

// Rules R1, R4 and R5, and names that do not matter

// TestDeepTrees has trees of 2^16 levels.
func TestDeepTrees(t *testing.T) {
	const deep = 1 << 16
	body, arg := api.Expr{Op: api.EInt}, api.TypeExpr{Kind: api.TInt}
	for range deep - 1 {
		body = api.Expr{Op: api.ERaise, Kids: []api.Expr{body}}
		arg = api.TypeExpr{Kind: api.TArray, Args: []api.TypeExpr{arg}}
	}
	for _, p := range []api.Prog{
		{Funs: []api.FunExpr{{Name: "f", Body: body}}},
		{Data: []api.DataExpr{{Name: "T", Cons: []api.ConExpr{{Name: "A", Args: []api.TypeExpr{arg}}}}}},
	} {
		if list, diag := special.Demand(p); diag != (api.Diag{Code: api.ErrInvalid, Fun: -1}) || len(list) > 0 {
			t.Error(diag)
		}
		expectNone(t, p, instance(0))
	}
	p := parse(t, "fun f(x) = x;")
	expectNone(t, p, instance(0, nodes(deep)))
	if got := special.Find([]api.Instance{instance(0, nodes(deep-1)), instance(0, nodes(deep))}, instance(0, nodes(deep))); got != 1 {
		t.Error(got)
	}
}

func expectNone(t *testing.T, p api.Prog, x api.Instance) {
	t.Helper()
	notes, ok := special.Notes(p, x)
	params, result, also := special.Params(p, x)
	if ok || also || len(notes)+len(params)+len(result.Args) > 0 || result.Kind != 0 || result.Num != 0 {
		t.Errorf("%v, %v, %v, %v, %v", notes, ok, params, result, also)
	}
}

// TestInvalidTrees changes programs at random, so that most of them are not valid.
func TestInvalidTrees(t *testing.T) {
	r := newForge(75)
	met := map[bool]int{}
	for range 1200 {
		p := r.program()
		for range 1 + r.Intn(2) {
			v := pick(r, parts(reflect.ValueOf(&p).Elem())...)
			switch v.Kind() {
			case reflect.String:
				v.SetString(pick(r, "", "f", "x", "C", "F", "?"))
			case reflect.Slice:
				v.Set(deepCopy(v.Slice(0, r.Intn(v.Len()+1))))
			case reflect.Int, reflect.Int64:
				v.SetInt(pick(r, -1, 0, v.Int()+1, 99, -1<<63))
			}
		}
		_, diag := expectDemand(t, p)
		expectInstance(t, p, instance(0))
		expectInstance(t, p, instance(1, integer))
		met[diag.Code == api.OK]++
	}
	if met[true] < 100 || met[false] < 100 {
		t.Error(met)
	}
}

// call is all that the functions are asked and answer.
type call struct {
	Prog      api.Prog
	List      []api.Instance
	Instances []api.Instance
}

type answer struct {
	Demanded []api.Instance
	Notes    [][]api.Note
	Params   [][]api.Type
	Results  []api.Type
	Found    []int
}

func ask(c call) answer {
	var a answer
	a.Demanded, _ = special.Demand(c.Prog)
	for _, x := range c.Instances {
		notes, _ := special.Notes(c.Prog, x)
		params, result, _ := special.Params(c.Prog, x)
		a.Notes, a.Params, a.Results = append(a.Notes, notes), append(a.Params, params), append(a.Results, result)
		a.Found = append(a.Found, special.Find(c.List, x))
	}
	return a
}

// call makes one for a random program, with the demanded instances and with others.
func (r forge) call() call {
	c := call{Prog: r.program()}
	inferred, _ := typing.Infer(c.Prog)
	c.List, _ = special.Demand(c.Prog)
	c.Instances, _ = special.Demand(c.Prog)
	for f := range inferred.Schemes {
		x := instance(f)
		for range inferred.Schemes[f].Vars {
			x.Args = append(x.Args, r.typ(1, r.Intn(3)))
		}
		c.Instances = append(c.Instances, x)
	}
	return c
}

func TestEmptyAndNilSlices(t *testing.T) {
	r := newForge(76)
	for range 200 {
		c := r.call()
		other := copyOf(c)
		for _, v := range parts(reflect.ValueOf(&other).Elem()) {
			if v.Kind() == reflect.Slice && v.Len() == 0 {
				v.Set(reflect.MakeSlice(v.Type(), 0, 3))
			}
		}
		if first, second := ask(c), ask(other); !same(first, second) {
			t.Errorf("%v: %v, %v", c, first, second)
		}
	}
}

// scramble overwrites a value everywhere, also behind the ends of its slices.
func scramble(v reflect.Value) {
	for _, each := range parts(v) {
		switch each.Kind() {
		case reflect.Slice:
			extended := each.Slice(0, each.Cap())
			for i := each.Len(); i < each.Cap(); i++ {
				extended.Index(i).SetZero()
			}
		case reflect.Int, reflect.Int64:
			each.SetInt(-9)
		}
	}
}

// TestResultsAreIndependent overwrites results and arguments, and expects that nothing else changes.
func TestResultsAreIndependent(t *testing.T) {
	r := newForge(77)
	for range 200 {
		c := r.call()
		before := copyOf(c)
		first := ask(c)
		want := copyOf(first)
		second := ask(c)
		expectSeparate(t, second)
		scramble(reflect.ValueOf(&first).Elem())
		third := ask(c)
		if !same(second, want) || !same(third, want) || !same(c, before) {
			t.Errorf("%v: %v, %v, want %v", before, second, third, want)
		}
		scramble(reflect.ValueOf(&c).Elem())
		if !same(third, want) {
			t.Errorf("%v: %v, want %v", before, third, want)
		}
	}
	// An argument that stands in several places of the results
	p := parse(t, "fun f(x, y) = let _ = (x, x, y) in k(x, x); fun k(x, y) = (x, y, x);")
	shared := plain(api.TTuple, integer, truth)
	expectSeparate(t, ask(call{Prog: p, Instances: []api.Instance{instance(0, shared, shared)}}))
}

// expectSeparate expects that no two slices of a result share memory, also behind their ends.
func expectSeparate[T any](t *testing.T, result T) {
	t.Helper()
	var list [][2]uintptr
	for _, v := range parts(reflect.ValueOf(&result).Elem()) {
		if v.Kind() == reflect.Slice && v.Cap() > 0 {
			list = append(list, [2]uintptr{v.Pointer(), v.Pointer() + uintptr(v.Cap())*v.Type().Elem().Size()})
		}
	}
	slices.SortFunc(list, func(a, b [2]uintptr) int { return cmp.Compare(a[0], b[0]) })
	for i := 1; i < len(list); i++ {
		if list[i][0] < list[i-1][1] {
			t.Errorf("%v shares memory", result)
		}
	}
}

// TestRenaming gives other names to everything, which changes nothing.
func TestRenaming(t *testing.T) {
	r := newForge(78)
	for range 300 {
		c := r.call()
		other := copyOf(c)
		for _, v := range parts(reflect.ValueOf(&other.Prog).Elem()) {
			if v.Kind() == reflect.String && v.Len() > 0 {
				v.SetString(v.String() + "_new")
			}
		}
		if first, second := ask(c), ask(other); !same(first, second) {
			t.Errorf("%s: %v, %v", syntax.Format(c.Prog), first, second)
		}
	}
}

// TestSimilarNames has data types whose names are parts of each other, so that texts of types are similar.
func TestSimilarNames(t *testing.T) {
	src := "data A = B; data AA = BB; data F(a) = G(a); data FF(a, b) = GG(a, b); fun id(x) = x; fun k(x, y) = x; fun g() = (id(B), id(BB), id(G(B)), id(GG(B, BB)), id(GG(BB, B))); fun h() = (k(G(B), B), k(B, G(B)), k((B, B), BB), k(B, (B, BB)), k(B, BB), k(BB, B));"
	want := "g h id[A] id[AA] id[F(A)] id[FF(A, AA)] id[FF(AA, A)] k[F(A), A] k[A, F(A)] k[(A, A), AA] k[A, (A, AA)] k[A, AA] k[AA, A]"
	p := parse(t, src)
	if text, diag := expectDemand(t, p); text != want || diag.Code != api.OK {
		t.Errorf("%q, %v", text, diag)
	}
}
