package typing_test

import (
	"math"
	"slices"
	"testing"

	"amortcost/api"
	"amortcost/typing"
)

var (
	integer = plain(api.TInt)
	truth   = plain(api.TBool)
	void    = plain(api.TUnit)
	a0      = made(api.TVar, 0)
	a1      = made(api.TVar, 1)
	a2      = made(api.TVar, 2)
)

func pair(a, b api.Type) api.Type {
	return plain(api.TTuple, a, b)
}

// comb returns a type with this odd number of nodes.
func comb(nodes int, last api.Type) api.Type {
	t := last
	for range nodes / 2 {
		t = pair(integer, t)
	}
	return t
}

// Promise 6.2

func TestSizeEqualGround(t *testing.T) {
	list := []struct {
		of     api.Type
		size   int
		ground bool
	}{
		{api.Type{}, 1, true}, {integer, 1, true}, {truth, 1, true}, {void, 1, true}, {a0, 1, false}, {a1, 1, false}, {made(api.TVar, -1), 1, false}, {made(api.TVar, math.MaxInt), 1, false},
		{pair(integer, truth), 3, true}, {pair(truth, integer), 3, true}, {pair(integer, a0), 3, false}, {pair(a0, integer), 3, false}, {plain(api.TTuple, integer, truth, void), 4, true},
		{plain(api.TArray, integer), 2, true}, {plain(api.TRef, integer), 2, true}, {plain(api.TFun, integer), 2, true}, {plain(api.TFun), 1, true}, {plain(api.TTuple), 1, true}, {plain(api.TTuple, integer), 2, true},
		{made(api.TData, 0), 1, true}, {made(api.TData, 1), 1, true}, {made(api.TData, 1, integer), 2, true}, {made(api.TData, 1, made(api.TData, 0)), 2, true}, {made(api.TData, -1), 1, true},
		{plain(api.TFun, pair(a0, a1), plain(api.TRef, a2)), 6, false}, {plain(api.TRef, plain(api.TRef, plain(api.TRef, a0))), 4, false}, {made(api.TInt, 1), 1, true}, {made(api.TInt, 0, integer), 2, true}, {made(api.TInt, 0, a0), 2, false},
		{made(api.TVar, 0, integer), 2, false}, {made(api.TVar, 0, integer, integer), 3, false}, {made(10, 0), 1, true}, {made(-1, 0), 1, true}, {comb(1001, truth), 1001, true}, {comb(1001, a0), 1001, false}, {comb(1003, a0), 1003, false},
	}
	for i, c := range list {
		if size, ground := typing.Size(c.of), typing.Ground(c.of); size != c.size || ground != c.ground {
			t.Errorf("%v: %d, %v", c.of, size, ground)
		}
		for j, d := range list {
			if equal := typing.Equal(c.of, copyOf(d.of)); equal != (i == j) {
				t.Errorf("%v and %v: %v", c.of, d.of, equal)
			}
		}
	}
}

func TestSubst(t *testing.T) {
	for _, c := range []struct {
		of   api.Type
		args []api.Type
		want api.Type
	}{
		{a0, nil, a0}, {a0, []api.Type{integer}, integer}, {a1, []api.Type{integer}, a1}, {a1, []api.Type{integer, truth}, truth}, {a2, []api.Type{integer, truth}, a2}, {integer, []api.Type{truth}, integer},
		{pair(a0, a1), []api.Type{integer, truth}, pair(integer, truth)}, {pair(a1, a0), []api.Type{integer, truth}, pair(truth, integer)}, {pair(a0, a0), []api.Type{pair(integer, truth)}, pair(pair(integer, truth), pair(integer, truth))},
		{plain(api.TFun, plain(api.TRef, a0), plain(api.TArray, made(api.TData, 3, a1, a2))), []api.Type{integer, truth}, plain(api.TFun, plain(api.TRef, integer), plain(api.TArray, made(api.TData, 3, truth, a2)))},
		// Nothing is replaced in what was put in.
		{pair(a0, a1), []api.Type{a1, a0}, pair(a1, a0)}, {a0, []api.Type{pair(a0, a1), integer}, pair(a0, a1)}, {pair(a0, a1), []api.Type{plain(api.TRef, a1), plain(api.TRef, a0)}, pair(plain(api.TRef, a1), plain(api.TRef, a0))},
		// Variables without a type stay, and their Args are treated like those of other nodes.
		{made(api.TVar, -1), []api.Type{integer}, made(api.TVar, -1)}, {made(api.TVar, math.MinInt), []api.Type{integer}, made(api.TVar, math.MinInt)}, {made(api.TVar, math.MaxInt), []api.Type{integer}, made(api.TVar, math.MaxInt)},
		{made(api.TVar, 1, a0), []api.Type{integer}, made(api.TVar, 1, integer)}, {made(api.TVar, -1, a0, made(api.TVar, 2, a0)), []api.Type{integer}, made(api.TVar, -1, integer, made(api.TVar, 2, integer))},
		// The Args of a variable go with it.
		{made(api.TVar, 0, a0), []api.Type{integer}, integer}, {made(api.TVar, 0, integer), []api.Type{made(api.TVar, 0, truth)}, made(api.TVar, 0, truth)},
		// Only nodes of the kind TVar are variables.
		{made(api.TData, 0), []api.Type{integer}, made(api.TData, 0)}, {made(api.TInt, 0, a0), []api.Type{integer}, made(api.TInt, 0, integer)}, {api.Type{}, []api.Type{integer}, api.Type{}}, {made(77, 1, a1), []api.Type{integer, truth}, made(77, 1, truth)},
	} {
		if got := typing.Subst(c.of, c.args); !same(got, c.want) {
			t.Errorf("%v, %v: %v", c.of, c.args, got)
		}
	}
}

// Promise 6.3

func TestMatch(t *testing.T) {
	var all, units []api.Type
	for v := range 101 {
		all, units = append(all, made(api.TVar, v)), append(units, void)
	}
	for _, c := range []struct {
		t, u api.Type
		want []api.Type
		ok   bool
	}{
		{integer, integer, nil, true}, {integer, truth, nil, false}, {integer, a0, nil, false}, {a0, integer, []api.Type{integer}, true}, {a0, a1, []api.Type{a1}, true}, {a0, a0, []api.Type{a0}, true},
		{pair(a0, a1), pair(integer, truth), []api.Type{integer, truth}, true}, {pair(a1, a0), pair(integer, truth), []api.Type{truth, integer}, true}, {pair(a0, a0), pair(integer, integer), []api.Type{integer}, true}, {pair(a0, a0), pair(integer, truth), nil, false},
		{pair(a0, a0), pair(pair(a1, integer), pair(a1, integer)), []api.Type{pair(a1, integer)}, true}, {pair(a0, a0), pair(pair(a1, integer), pair(a1, truth)), nil, false}, {pair(a0, pair(a1, a0)), pair(integer, pair(truth, truth)), nil, false},
		// Variables that do not occur have the type unit.
		{a2, integer, []api.Type{void, void, integer}, true}, {pair(a2, a0), pair(integer, truth), []api.Type{truth, void, integer}, true}, {made(api.TVar, 100), integer, append(slices.Clone(units[:100]), integer), true},
		{made(api.TVar, 101), integer, nil, false}, {made(api.TVar, math.MaxInt), integer, nil, false}, {made(api.TVar, -1), integer, nil, false}, {made(api.TVar, math.MinInt), integer, nil, false},
		{pair(integer, made(api.TVar, 101)), pair(integer, integer), nil, false}, {pair(made(api.TVar, -1), a0), pair(integer, integer), nil, false}, {made(api.TVar, 101), made(api.TVar, 101), nil, false},
		{plain(api.TTuple, all...), plain(api.TTuple, units...), units, true}, {plain(api.TTuple, all...), plain(api.TTuple, all...), all, true},
		// Other nodes correspond if kind, number and the number of arguments are equal.
		{pair(a0, a1), plain(api.TFun, integer, truth), nil, false}, {pair(a0, a1), plain(api.TTuple, integer, truth, void), nil, false}, {plain(api.TTuple, a0, a1, a2), pair(integer, truth), nil, false}, {plain(api.TArray, a0), plain(api.TRef, integer), nil, false},
		{made(api.TData, 1, a0), made(api.TData, 1, integer), []api.Type{integer}, true}, {made(api.TData, 1, a0), made(api.TData, 2, integer), nil, false}, {made(api.TData, 1, a0), made(api.TData, 1), nil, false}, {made(api.TData, 1), made(api.TData, 1, integer), nil, false}, {made(api.TInt, 1), integer, nil, false}, {made(api.TInt, 1), made(api.TInt, 1), nil, true},
		{api.Type{}, api.Type{}, nil, true}, {made(-5, -5, a0), made(-5, -5, api.Type{}), []api.Type{{}}, true}, {plain(api.TFun, a0), plain(api.TFun), nil, false},
		// What comes later counts, too.
		{pair(a0, integer), pair(integer, truth), nil, false}, {pair(pair(a0, integer), a1), pair(pair(integer, truth), integer), nil, false},
		// A variable is one, whatever arguments it has; and what it stands for may be any type.
		{made(api.TVar, 0, integer), truth, []api.Type{truth}, true}, {made(api.TVar, 1, integer, truth), made(api.TVar, 5, void), []api.Type{void, made(api.TVar, 5, void)}, true}, {pair(a0, made(api.TVar, 0, integer)), pair(truth, truth), []api.Type{truth}, true}, {pair(a0, made(api.TVar, 0, integer)), pair(truth, made(api.TVar, 0, integer)), nil, false},
		{made(api.TVar, 0, made(api.TVar, -1)), truth, []api.Type{truth}, true}, {made(api.TVar, 101, integer), truth, nil, false}, {pair(a0, a0), pair(a0, made(api.TVar, 0, integer)), nil, false},
	} {
		got, ok := typing.Match(c.t, c.u)
		if ok != c.ok || !same(got, c.want) {
			t.Errorf("%v, %v: %v, %v", c.t, c.u, got, ok)
		}
		if ok && !typing.Equal(typing.Subst(c.t, got), c.u) {
			t.Errorf("%v does not make %v of %v", got, c.u, c.t)
		}
	}
}

// Promise 6.4

// samples has a list, a type with constructors of all sorts, and data types that no program has.
func samples() []api.Data {
	list := api.Data{Name: "L", Vars: 1, Cons: []api.Con{{Name: "N"}, {Name: "C", Args: []api.Type{a0, made(api.TData, 0, a0)}}}}
	sorts := api.Data{Name: "S", Vars: 2, Cons: []api.Con{{Name: "A", Args: []api.Type{a1, integer, plain(api.TFun, a0, pair(a1, a0))}}, {Name: "B", Args: []api.Type{a0, a0, a0, a0, a0, a0}}}}
	none := api.Data{Name: "E", Cons: []api.Con{{Name: "D", Args: []api.Type{made(api.TData, 0, truth)}}}}
	strange := api.Data{Name: "", Vars: -1, Cons: []api.Con{{Args: []api.Type{integer}}}}
	seven := api.Data{Name: "seven words", Vars: 7, Cons: []api.Con{{Args: []api.Type{made(api.TVar, 6), made(api.TVar, 7), made(api.TVar, -1), {}}}, {Args: []api.Type{made(api.TVar, 7, a0, a1), made(api.TVar, 0, a1)}}}}
	return []api.Data{list, sorts, none, strange, seven}
}

func TestFields(t *testing.T) {
	data := samples()
	sevenTypes := []api.Type{integer, truth, void, a0, a1, pair(a0, a0), plain(api.TRef, a2)}
	for _, c := range []struct {
		of   api.Type
		con  int
		want []api.Type
		ok   bool
	}{
		{made(api.TData, 0, integer), 0, nil, true}, {made(api.TData, 0, integer), 1, []api.Type{integer, made(api.TData, 0, integer)}, true}, {made(api.TData, 0, a0), 1, []api.Type{a0, made(api.TData, 0, a0)}, true}, {made(api.TData, 0, pair(a2, a0)), 1, []api.Type{pair(a2, a0), made(api.TData, 0, pair(a2, a0))}, true},
		{made(api.TData, 1, a1, truth), 0, []api.Type{truth, integer, plain(api.TFun, a1, pair(truth, a1))}, true}, {made(api.TData, 2), 0, []api.Type{made(api.TData, 0, truth)}, true},
		{made(api.TData, 4, sevenTypes...), 0, []api.Type{plain(api.TRef, a2), made(api.TVar, 7), made(api.TVar, -1), {}}, true}, {made(api.TData, 4, sevenTypes...), 1, []api.Type{made(api.TVar, 7, integer, truth), integer}, true},
		// The arguments need not be valid.
		{made(api.TData, 0, made(api.TInt, 5, truth)), 1, []api.Type{made(api.TInt, 5, truth), made(api.TData, 0, made(api.TInt, 5, truth))}, true},
		// No such constructor.
		{made(api.TData, 0, integer), 2, nil, false}, {made(api.TData, 0, integer), -1, nil, false}, {made(api.TData, 0, integer), math.MaxInt, nil, false}, {made(api.TData, 0, integer), math.MinInt, nil, false}, {made(api.TData, 2), 1, nil, false},
		// No such type.
		{made(api.TData, 0), 0, nil, false}, {made(api.TData, 0, integer, integer), 0, nil, false}, {made(api.TData, 1, integer), 0, nil, false}, {made(api.TData, 2, integer), 0, nil, false}, {made(api.TData, 3), 0, nil, false}, {made(api.TData, 3, integer), 0, nil, false},
		{made(api.TData, 5), 0, nil, false}, {made(api.TData, -1), 0, nil, false}, {made(api.TData, math.MaxInt), 0, nil, false}, {made(api.TData, math.MinInt), 0, nil, false},
		{made(api.TTuple, 0, integer), 0, nil, false}, {made(api.TVar, 0, integer), 0, nil, false}, {made(api.TVar, 2), 0, nil, false}, {integer, 0, nil, false}, {api.Type{}, 0, nil, false},
	} {
		if got, ok := typing.Fields(data, c.of, c.con); ok != c.ok || !same(got, c.want) {
			t.Errorf("%v, %d: %v, %v", c.of, c.con, got, ok)
		}
	}
	if got, ok := typing.Fields(nil, made(api.TData, 0), 0); ok || len(got) > 0 {
		t.Error(got, ok)
	}
}

// TestFieldsLimit has argument types of 200 and 201 nodes.
func TestFieldsLimit(t *testing.T) {
	large := func(args ...api.Type) []api.Data { return []api.Data{{Vars: 1, Cons: []api.Con{{Args: args}}}} }
	for _, c := range []struct {
		data []api.Data
		arg  api.Type
		ok   bool
	}{
		{large(a0), plain(api.TRef, comb(199, truth)), true}, {large(a0), comb(201, truth), false}, {large(plain(api.TRef, a0)), comb(199, truth), true}, {large(plain(api.TRef, a0)), plain(api.TRef, comb(199, truth)), false},
		{large(pair(a0, a0)), comb(99, truth), true}, {large(pair(a0, a0)), plain(api.TRef, comb(99, truth)), false}, {large(pair(a0, plain(api.TRef, a0))), comb(99, truth), true}, {large(pair(a0, plain(api.TRef, a0))), plain(api.TRef, comb(99, truth)), false},
		{large(a0, a0, a0), comb(199, truth), true}, {large(a0, a0, comb(201, a0)), integer, false}, {large(integer, comb(201, integer)), integer, false}, {large(plain(api.TRef, comb(199, truth))), comb(301, truth), true},
		{large(made(api.TVar, 0, comb(301, truth))), integer, true}, {large(made(api.TVar, 1, comb(199, truth))), integer, true}, {large(made(api.TVar, 1, comb(201, truth))), integer, false},
	} {
		of := made(api.TData, 0, c.arg)
		want, _ := definedFields(c.data, of, 0)
		if got, ok := typing.Fields(c.data, of, 0); ok != c.ok || !same(got, want) {
			t.Errorf("%v, %v: %v, %v", c.data, c.arg, got, ok)
		}
	}
}

// TestFieldsOfDeclarations has fields that no memory can hold.
func TestFieldsOfDeclarations(t *testing.T) {
	huge := a0
	for range 60 {
		huge = pair(huge, huge)
	}
	if got, ok := typing.Fields([]api.Data{{Vars: 1, Cons: []api.Con{{Args: []api.Type{huge}}}}}, made(api.TData, 0, integer), 0); ok || len(got) > 0 {
		t.Error("fields of an enormous type")
	}
	if got, ok := typing.Fields(samples(), made(api.TData, 0, huge), 1); ok || len(got) > 0 {
		t.Error("fields with an enormous argument")
	}
	if typing.Valid(nil, huge, 1) || typing.Format(nil, huge) != "" || typing.Ground(huge) {
		t.Error("an enormous type is valid")
	}
}

func TestValid(t *testing.T) {
	data := samples()
	sixTypes := []api.Type{integer, integer, integer, integer, integer, integer}
	for _, c := range []struct {
		of    api.Type
		least int // the least number of variables over which the type is valid; -1 if it is never valid
	}{
		{integer, 0}, {truth, 0}, {void, 0}, {a0, 1}, {a2, 3}, {made(api.TVar, 100), 101}, {pair(a2, a0), 3}, {made(api.TVar, -1), -1}, {made(api.TVar, math.MinInt), -1},
		{made(api.TInt, 1), -1}, {made(api.TBool, -1), -1}, {made(api.TUnit, 2), -1}, {made(api.TInt, 0, integer), -1}, {made(api.TBool, 0, integer), -1}, {made(api.TUnit, 0, integer, integer), -1}, {made(api.TVar, 0, integer), -1},
		{made(api.TData, 0, integer), 0}, {made(api.TData, 0, a1), 2}, {made(api.TData, 1, a0, integer), 1}, {made(api.TData, 2), 0}, {made(api.TData, 4, append(sixTypes, integer)...), 0}, {made(api.TData, 0), -1}, {made(api.TData, 0, integer, integer), -1}, {made(api.TData, 1, integer), -1}, {made(api.TData, 2, integer), -1}, {made(api.TData, 3), -1}, {made(api.TData, 3, integer), -1}, {made(api.TData, 4, sixTypes...), -1}, {made(api.TData, 5), -1}, {made(api.TData, -1), -1}, {made(api.TData, math.MaxInt), -1}, {made(api.TData, math.MinInt), -1},
		{plain(api.TTuple), -1}, {plain(api.TTuple, integer), -1}, {pair(integer, integer), 0}, {plain(api.TTuple, sixTypes...), 0}, {plain(api.TTuple, append(sixTypes, integer)...), -1}, {made(api.TTuple, 1, integer, integer), -1},
		{plain(api.TArray), -1}, {plain(api.TArray, integer), 0}, {plain(api.TArray, integer, integer), -1}, {made(api.TArray, 1, integer), -1}, {plain(api.TRef), -1}, {plain(api.TRef, integer), 0}, {plain(api.TRef, integer, integer), -1}, {made(api.TRef, -1, integer), -1},
		{plain(api.TFun), -1}, {plain(api.TFun, integer), 0}, {plain(api.TFun, append(sixTypes, integer)...), 0}, {plain(api.TFun, append(sixTypes, integer, integer)...), -1}, {made(api.TFun, 1, integer), -1},
		{api.Type{}, -1}, {plain(10), -1}, {plain(-1), -1}, {plain(10, integer), -1}, {made(math.MaxInt, 0), -1},
		{pair(integer, plain(api.TTuple)), -1}, {pair(made(api.TInt, 1), integer), -1}, {pair(integer, pair(integer, made(api.TData, 9))), -1}, {plain(api.TRef, plain(api.TRef, plain(api.TArray))), -1},
		{comb(199, integer), 0}, {plain(api.TRef, comb(199, integer)), 0}, {comb(201, integer), -1}, {plain(api.TRef, comb(199, a0)), 1}, {plain(api.TRef, comb(201, integer)), -1},
	} {
		for _, vars := range []int{math.MinInt, -1, 0, 1, 2, 3, 4, 100, 101, 102, math.MaxInt} {
			want := c.least == 0 || c.least > 0 && vars >= c.least
			if got := typing.Valid(data, c.of, vars); got != want {
				t.Errorf("%v, %d: %v", c.of, vars, got)
			}
		}
	}
	if typing.Valid(nil, made(api.TData, 0), 1) || !typing.Valid(nil, a0, 1) {
		t.Error("types over no data types")
	}
}

// Promise 6.5

func TestFormat(t *testing.T) {
	data := samples()
	for _, c := range []struct {
		of   api.Type
		want string
	}{
		{integer, "int"}, {truth, "bool"}, {void, "unit"}, {a0, "a0"}, {a1, "a1"}, {made(api.TVar, 10), "a10"}, {made(api.TVar, 100), "a100"}, {made(api.TVar, 101), ""}, {made(api.TVar, -1), ""},
		{made(api.TData, 2), "E"}, {made(api.TData, 0, integer), "L(int)"}, {made(api.TData, 1, a0, made(api.TData, 0, truth)), "S(a0, L(bool))"}, {made(api.TData, 0), ""}, {made(api.TData, 5), ""}, {made(api.TData, 3), ""},
		{pair(integer, truth), "(int, bool)"}, {plain(api.TTuple, a0, pair(a1, a0), void), "(a0, (a1, a0), unit)"}, {plain(api.TArray, pair(integer, integer)), "array((int, int))"}, {plain(api.TRef, plain(api.TArray, a0)), "ref(array(a0))"},
		{plain(api.TFun, integer), "fn() -> int"}, {plain(api.TFun, integer, truth), "fn(int) -> bool"}, {plain(api.TFun, integer, a0, void), "fn(int, a0) -> unit"}, {plain(api.TFun, plain(api.TFun, integer), plain(api.TFun, pair(a0, a0), plain(api.TFun, truth))), "fn(fn() -> int) -> fn((a0, a0)) -> fn() -> bool"},
		{pair(integer, pair(integer, made(api.TVar, 101))), ""}, {plain(api.TTuple, integer), ""}, {api.Type{}, ""}, {comb(201, integer), ""},
		{made(api.TData, 4, integer, truth, void, a0, a1, a2, integer), "seven words(int, bool, unit, a0, a1, a2, int)"},
	} {
		if got := typing.Format(data, c.of); got != c.want {
			t.Errorf("%v: %q, want %q", c.of, got, c.want)
		}
	}
	largest := plain(api.TRef, comb(199, a0))
	if got := typing.Format(nil, largest); got != definedFormat(nil, largest) || len(got) != 5+99*7+2 {
		t.Errorf("%q", got)
	}
	if got := typing.Format([]api.Data{{}}, made(api.TData, 0)); got != "" {
		t.Errorf("%q", got)
	}
}

// TestRandomTypes has types that need not be valid.
func TestRandomTypes(t *testing.T) {
	r := newForge(64)
	matches, fieldLists, valid := 0, 0, 0
	for range 20000 {
		a := r.anyType(r.Intn(4))
		args := []api.Type{r.anyType(r.Intn(3)), r.anyType(r.Intn(2)), r.anyType(1)}[:r.Intn(4)]
		b := definedSubst(a, args)
		if r.Intn(3) == 0 {
			r.changeType(&b)
		}
		data := samples()[:r.Intn(6)]
		if got, want := typing.Size(a), len(flat(a)); got != want {
			t.Errorf("%v: Size %d", a, got)
		}
		if got, want := typing.Equal(a, b), same(a, b); got != want {
			t.Errorf("%v, %v: Equal %v", a, b, got)
		}
		isVar := func(node api.Type) bool { return node.Kind == api.TVar }
		if got, want := typing.Ground(a), !slices.ContainsFunc(flat(a), isVar); got != want {
			t.Errorf("%v: Ground %v", a, got)
		}
		if got, want := typing.Subst(a, args), definedSubst(a, args); !same(got, want) {
			t.Errorf("%v, %v: Subst %v", a, args, got)
		}
		got, ok := typing.Match(a, b)
		want, wantOk := definedMatch(a, b)
		if ok != wantOk || !same(got, want) {
			t.Errorf("%v, %v: Match %v, %v, want %v, %v", a, b, got, ok, want, wantOk)
		}
		if ok {
			matches++
		}
		of, con := made(api.TData, r.Intn(5), args...), r.Intn(4)-1
		got, ok = typing.Fields(data, of, con)
		want, wantOk = definedFields(data, of, con)
		if ok != wantOk || !same(got, want) {
			t.Errorf("%v, %v, %d: Fields %v, %v, want %v, %v", data, of, con, got, ok, want, wantOk)
		}
		if ok {
			fieldLists++
		}
		vars := r.Intn(5) - 1
		if got, want := typing.Valid(data, a, vars), definedValid(data, a, vars); got != want {
			t.Errorf("%v, %v, %d: Valid %v", data, a, vars, got)
		}
		if got, want := typing.Format(data, a), definedFormat(data, a); got != want {
			t.Errorf("%v, %v: Format %q, want %q", data, a, got, want)
		} else if got != "" {
			valid++
		}
	}
	if matches < 3000 || fieldLists < 300 || valid < 1000 {
		t.Error(matches, fieldLists, valid)
	}
}

// TestRandomValidTypes has valid types, of which one field is changed.
func TestRandomValidTypes(t *testing.T) {
	r := newForge(65)
	lost := 0
	for range 5000 {
		r.data = samples()[:3]
		a := r.typ(r.Intn(5), 3)
		if got := typing.Format(r.data, a); got == "" || got != definedFormat(r.data, a) || !typing.Valid(r.data, a, 3) {
			t.Errorf("%v: %q", a, got)
		}
		r.changeType(&a)
		if got, want := typing.Valid(r.data, a, 3), definedValid(r.data, a, 3); got != want {
			t.Errorf("%v: %v", a, got)
		} else if !got {
			lost++
		}
		if got := typing.Format(r.data, a); got != definedFormat(r.data, a) {
			t.Errorf("%v: %q", a, got)
		}
	}
	if lost < 2000 {
		t.Error(lost)
	}
}
