package scope_test

import (
	"math/rand"
	"reflect"
	"slices"

	"amortcost/api"
)

// forge makes programs without errors at random, and changes them. There are few names, so that bindings hide functions and each other, and changes give names other meanings.
type forge struct {
	*rand.Rand
	prog api.Prog
}

func newForge(seed int64) *forge {
	return &forge{Rand: rand.New(rand.NewSource(seed))}
}

func pick[T any](r *forge, list []T) T {
	return list[r.Intn(len(list))]
}

// some returns different elements, at most so many, in any order.
func some[T any](r *forge, most int, list []T) []T {
	list = slices.Clone(list)
	r.Shuffle(len(list), func(i, j int) { list[i], list[j] = list[j], list[i] })
	return list[:r.Intn(min(most, len(list))+1)]
}

var (
	lowerNames = []string{"f", "g", "h", "x", "y", "z"}
	upperNames = []string{"A", "B", "C", "D", "E", "F", "G", "H"}
)

// program makes a program; what it names must be there before it is named.
func (r *forge) program() api.Prog {
	r.prog = api.Prog{}
	cons := some(r, len(upperNames), upperNames)
	for _, name := range some(r, 3, upperNames) {
		decl := api.DataExpr{Name: name, Vars: some(r, 2, lowerNames)}
		for range min(1+r.Intn(3), len(cons)) {
			con := api.ConExpr{Name: cons[0]}
			cons = cons[1:]
			for range r.Intn(4) {
				con.Args = append(con.Args, r.argument(decl))
			}
			decl.Cons = append(decl.Cons, con)
		}
		if len(decl.Cons) > 0 {
			r.prog.Data = append(r.prog.Data, decl)
		}
	}
	for _, name := range some(r, 5, lowerNames) {
		r.prog.Funs = append(r.prog.Funs, api.FunExpr{Name: name, Params: some(r, 3, lowerNames)})
	}
	for f := range r.prog.Funs {
		fun := &r.prog.Funs[f]
		fun.Body = r.expr(1+r.Intn(5), fun.Params)
	}
	return copyOf(r.prog)
}

func (r *forge) argument(decl api.DataExpr) api.TypeExpr {
	if r.Intn(3) > 0 {
		return r.typeExpr(1+r.Intn(3), decl.Vars)
	}
	self := api.TypeExpr{Kind: api.TData, Name: decl.Name}
	for _, name := range decl.Vars {
		self.Args = append(self.Args, api.TypeExpr{Kind: api.TVar, Name: name})
	}
	return self
}

func (r *forge) typeExpr(depth int, vars []string) api.TypeExpr {
	if depth == 1 {
		if len(vars) > 0 && r.Intn(2) == 0 {
			return api.TypeExpr{Kind: api.TVar, Name: pick(r, vars)}
		}
		return api.TypeExpr{Kind: pick(r, []int{api.TInt, api.TBool, api.TUnit})}
	}
	t := api.TypeExpr{Kind: pick(r, []int{api.TTuple, api.TArray, api.TRef, api.TFun})}
	count := map[int]int{api.TTuple: 2 + r.Intn(2), api.TArray: 1, api.TRef: 1, api.TFun: 1 + r.Intn(3)}[t.Kind]
	if len(r.prog.Data) > 0 && r.Intn(2) == 0 {
		earlier := pick(r, r.prog.Data)
		t, count = api.TypeExpr{Kind: api.TData, Name: earlier.Name}, len(earlier.Vars)
	}
	for range count {
		t.Args = append(t.Args, r.typeExpr(depth-1, vars))
	}
	return t
}

// names returns different names for a binding of all of them, some of them "".
func (r *forge) names(count int) []string {
	list := slices.Clone(lowerNames)
	r.Shuffle(len(list), func(i, j int) { list[i], list[j] = list[j], list[i] })
	for i := range list {
		if r.Intn(4) == 0 {
			list[i] = ""
		}
	}
	return list[:count]
}

func (r *forge) leaf(bound []string) api.Expr {
	names := slices.DeleteFunc(slices.Clone(bound), func(name string) bool { return name == "" })
	for _, fun := range r.prog.Funs {
		names = append(names, fun.Name)
	}
	if len(names) > 0 && r.Intn(4) > 0 {
		return api.Expr{Op: api.EVar, Name: pick(r, names)}
	}
	return pick(r, []api.Expr{{Op: api.EUnit}, {Op: api.EBool, Num: 1}, {Op: api.EInt, Num: -7}, {Op: api.ETick, Num: 3}})
}

func (r *forge) kids(count, depth int, bound []string) []api.Expr {
	var list []api.Expr
	for range count {
		list = append(list, r.expr(depth-1, bound))
	}
	return list
}

func (r *forge) expr(depth int, bound []string) api.Expr {
	if depth <= 1 {
		return r.leaf(bound)
	}
	e := api.Expr{Op: 1 + r.Intn(17)}
	switch e.Op {
	case api.ETuple:
		e.Kids = r.kids(2+r.Intn(2), depth, bound)
	case api.ECons, api.EMatch:
		if len(r.prog.Data) == 0 {
			return r.leaf(bound)
		}
		return r.aboutData(e, depth, bound)
	case api.ELet, api.ETry:
		e.Name = r.names(1)[0]
		e.Kids = append(r.kids(1, depth, bound), r.kids(1, depth, append(slices.Clone(bound), e.Name))...)
	case api.EUntuple:
		e.Names = r.names(2 + r.Intn(2))
		e.Kids = append(r.kids(1, depth, bound), r.kids(1, depth, slices.Concat(bound, e.Names))...)
	case api.EIf:
		e.Kids = r.kids(3, depth, bound)
	case api.EFn:
		e.Names = some(r, 3, lowerNames)
		e.Kids = r.kids(1, depth, slices.Concat(bound, e.Names))
	case api.EApp:
		return r.application(depth, bound)
	case api.EBin:
		e.Num = 1 + r.Int63n(8)
		e.Kids = r.kids(2, depth, bound)
	case api.EPrim:
		e.Num = 1 + r.Int63n(7)
		e.Kids = r.kids([]int{0, 2, 2, 3, 1, 1, 1, 2}[e.Num], depth, bound)
	case api.ERaise:
		e.Kids = r.kids(1, depth, bound)
	default:
		return r.leaf(bound)
	}
	return e
}

func (r *forge) aboutData(e api.Expr, depth int, bound []string) api.Expr {
	cons := pick(r, r.prog.Data).Cons
	if e.Op == api.ECons {
		con := pick(r, cons)
		e.Name, e.Kids = con.Name, r.kids(len(con.Args), depth, bound)
		return e
	}
	e.Kids = r.kids(1, depth, bound)
	for _, i := range r.Perm(len(cons)) {
		alt := api.Alt{Con: cons[i].Name, Vars: r.names(len(cons[i].Args))}
		alt.Body = r.expr(depth-1, slices.Concat(bound, alt.Vars))
		e.Alts = append(e.Alts, alt)
	}
	return e
}

func (r *forge) application(depth int, bound []string) api.Expr {
	e := api.Expr{Op: api.EApp, Kids: r.kids(1, depth, bound)}
	count := r.Intn(3)
	for _, fun := range r.prog.Funs {
		if e.Kids[0].Op == api.EVar && e.Kids[0].Name == fun.Name && !slices.Contains(bound, fun.Name) {
			count = len(fun.Params)
		}
	}
	e.Kids = append(e.Kids, r.kids(count, depth, bound)...)
	return e
}

// change replaces a name, or the elements of a list, somewhere in a program.
func (r *forge) change(p *api.Prog) {
	var list []reflect.Value
	for _, v := range fields(reflect.ValueOf(p).Elem()) {
		if v.Kind() == reflect.String || v.Kind() == reflect.Slice && v.Len() > 0 {
			list = append(list, v)
		}
	}
	if len(list) == 0 {
		return
	}
	v := pick(r, list)
	if v.Kind() == reflect.String {
		if name := v.String(); name != "" && name[0] < 'a' {
			v.SetString(pick(r, upperNames))
		} else if r.Intn(40) > 0 {
			v.SetString(pick(r, lowerNames))
		} else {
			v.SetString("")
		}
		return
	}
	i, j := r.Intn(v.Len()), r.Intn(v.Len())
	switch r.Intn(4) {
	case 0:
		v.Set(reflect.AppendSlice(deepCopy(v.Slice(0, i)), deepCopy(v.Slice(i+1, v.Len()))))
	case 1:
		v.Set(reflect.Append(v, deepCopy(v.Index(i))))
	case 2:
		v.Index(i).Set(deepCopy(v.Index(j)))
	case 3:
		first := deepCopy(v.Index(i))
		v.Index(i).Set(deepCopy(v.Index(j)))
		v.Index(j).Set(first)
	}
}

// fields returns all the numbers, strings and slices within a value.
func fields(v reflect.Value) []reflect.Value {
	var list []reflect.Value
	switch v.Kind() {
	case reflect.Struct:
		for i := range v.NumField() {
			list = append(list, fields(v.Field(i))...)
		}
	case reflect.Slice:
		list = append(list, v)
		for i := range v.Len() {
			list = append(list, fields(v.Index(i))...)
		}
	default:
		list = append(list, v)
	}
	return list
}
