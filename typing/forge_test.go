package typing_test

import (
	"math/rand"
	"reflect"
	"slices"

	"amortcost/api"
)

// forge makes programs and types at random. An expression is made for a type that it shall have; the type variables of a function stand for types of which nothing is known. There are few names, so that bindings hide functions and each other.
type forge struct {
	*rand.Rand
	prog api.Prog
	data []api.Data
	sigs []api.Scheme // what each function shall be
}

func newForge(seed int64) *forge {
	return &forge{Rand: rand.New(rand.NewSource(seed))}
}

func pick[T any](r *forge, list []T) T {
	return list[r.Intn(len(list))]
}

// some returns different elements, at most so many, in any order.
func some[T any](r *forge, most int, list []T) []T {
	list = slices.Clone(list)
	r.Shuffle(len(list), func(i, j int) { list[i], list[j] = list[j], list[i] })
	return list[:r.Intn(min(most, len(list))+1)]
}

var (
	lowerNames = []string{"f", "g", "h", "x", "y", "z"}
	upperNames = []string{"A", "B", "C", "D", "E", "F", "G", "H"}
	typeNames  = []string{"a", "b", "c"}
)

func made(kind, num int, args ...api.Type) api.Type {
	return api.Type{Kind: kind, Num: num, Args: args}
}

func plain(kind int, args ...api.Type) api.Type {
	return made(kind, 0, args...)
}

// local is a bound name with its type.
type local struct {
	name string
	of   api.Type
}

// program makes a program that can often be typed.
func (r *forge) program() api.Prog {
	r.prog, r.data, r.sigs = api.Prog{}, nil, nil
	r.declarations()
	for _, name := range some(r, 4, lowerNames) {
		vars := r.Intn(3)
		sig := api.Scheme{Vars: vars, Result: r.typ(r.Intn(3), vars)}
		fun := api.FunExpr{Name: name, Params: some(r, 3, lowerNames)}
		for range fun.Params {
			sig.Params = append(sig.Params, r.typ(r.Intn(3), vars))
		}
		r.prog.Funs, r.sigs = append(r.prog.Funs, fun), append(r.sigs, sig)
	}
	for f := range r.prog.Funs {
		fun := &r.prog.Funs[f]
		var bound []local
		for i, name := range fun.Params {
			bound = append(bound, local{name, r.sigs[f].Params[i]})
		}
		fun.Body = r.expr(1+r.Intn(5), r.sigs[f].Result, r.sigs[f].Vars, bound)
	}
	return copyOf(r.prog)
}

func (r *forge) declarations() {
	cons := slices.Clone(upperNames)
	r.Shuffle(len(cons), func(i, j int) { cons[i], cons[j] = cons[j], cons[i] })
	for _, name := range some(r, 3, upperNames) {
		vars := r.Intn(3)
		decl := api.DataExpr{Name: name, Vars: typeNames[:vars]}
		list := api.Data{Name: name, Vars: vars}
		for range 1 + r.Intn(2) {
			con := api.Con{Name: cons[0]}
			cons = cons[1:]
			for range r.Intn(3) {
				if r.Intn(3) == 0 {
					con.Args = append(con.Args, made(api.TData, len(r.data), r.variables(vars)...))
				} else {
					con.Args = append(con.Args, r.typ(r.Intn(3), vars))
				}
			}
			list.Cons = append(list.Cons, con)
		}
		r.data = append(r.data, list)
		for _, con := range list.Cons {
			decl.Cons = append(decl.Cons, api.ConExpr{Name: con.Name, Args: r.texts(con.Args)})
		}
		r.prog.Data = append(r.prog.Data, decl)
	}
}

func (r *forge) variables(count int) []api.Type {
	var list []api.Type
	for v := range count {
		list = append(list, made(api.TVar, v))
	}
	return list
}

func (r *forge) texts(types []api.Type) []api.TypeExpr {
	var list []api.TypeExpr
	for _, t := range types {
		text := api.TypeExpr{Kind: t.Kind, Args: r.texts(t.Args)}
		switch t.Kind {
		case api.TVar:
			text.Name = typeNames[t.Num]
		case api.TData:
			text.Name = r.data[t.Num].Name
		}
		list = append(list, text)
	}
	return list
}

// typ makes a valid type.
func (r *forge) typ(depth, vars int) api.Type {
	if depth == 0 {
		if vars > 0 && r.Intn(2) == 0 {
			return made(api.TVar, r.Intn(vars))
		}
		return plain(pick(r, []int{api.TInt, api.TInt, api.TBool, api.TUnit}))
	}
	t := plain(pick(r, []int{api.TTuple, api.TArray, api.TRef, api.TFun}))
	count := map[int]int{api.TTuple: 2 + r.Intn(2), api.TArray: 1, api.TRef: 1, api.TFun: 1 + r.Intn(3)}[t.Kind]
	if len(r.data) > 0 && r.Intn(2) == 0 {
		t = made(api.TData, r.Intn(len(r.data)))
		count = r.data[t.Num].Vars
	}
	for range count {
		t.Args = append(t.Args, r.typ(r.Intn(depth), vars))
	}
	return t
}

// names returns different names for a binding of all of them, some of them "".
func (r *forge) names(count int) []string {
	list := slices.Clone(lowerNames)
	r.Shuffle(len(list), func(i, j int) { list[i], list[j] = list[j], list[i] })
	for i := range list {
		if r.Intn(4) == 0 {
			list[i] = ""
		}
	}
	return list[:count]
}

func with(bound []local, names []string, types []api.Type) []local {
	bound = slices.Clone(bound)
	for i, name := range names {
		bound = append(slices.DeleteFunc(bound, func(l local) bool { return l.name == name }), local{name, types[i]})
	}
	return slices.DeleteFunc(bound, func(l local) bool { return l.name == "" })
}

func name(text string) api.Expr {
	return api.Expr{Op: api.EVar, Name: text}
}

// expr makes an expression of a type. It is at most twice as deep as it should be.
func (r *forge) expr(depth int, want api.Type, vars int, bound []local) api.Expr {
	kid := func(t api.Type) api.Expr { return r.expr(depth-1, t, vars, bound) }
	fresh := func() api.Type { return r.typ(r.Intn(3), vars) }
	if depth <= 1 {
		return r.leaf(depth, want, vars, bound)
	}
	switch r.Intn(16) {
	case 0:
		t, name := fresh(), r.names(1)
		return api.Expr{Op: api.ELet, Name: name[0], Kids: []api.Expr{kid(t), r.expr(depth-1, want, vars, with(bound, name, []api.Type{t}))}}
	case 1:
		t := plain(api.TTuple, fresh(), fresh())
		names := r.names(2)
		return api.Expr{Op: api.EUntuple, Names: names, Kids: []api.Expr{kid(t), r.expr(depth-1, want, vars, with(bound, names, t.Args))}}
	case 2:
		return api.Expr{Op: api.EIf, Kids: []api.Expr{kid(plain(api.TBool)), kid(want), kid(want)}}
	case 3, 4:
		if len(r.data) > 0 {
			return r.match(depth, want, vars, bound)
		}
	case 5:
		t := plain(api.TFun, fresh(), want)
		return api.Expr{Op: api.EApp, Kids: []api.Expr{kid(t), kid(t.Args[0])}}
	case 6:
		return api.Expr{Op: api.ERaise, Kids: []api.Expr{kid(plain(api.TInt))}}
	case 7:
		name := r.names(1)
		return api.Expr{Op: api.ETry, Name: name[0], Kids: []api.Expr{kid(want), r.expr(depth-1, want, vars, with(bound, name, []api.Type{plain(api.TInt)}))}}
	case 8:
		return api.Expr{Op: api.EPrim, Num: api.PGet, Kids: []api.Expr{kid(plain(api.TArray, want)), kid(plain(api.TInt))}}
	case 9:
		return api.Expr{Op: api.EPrim, Num: api.PRead, Kids: []api.Expr{kid(plain(api.TRef, want))}}
	case 10, 11, 12:
		if e, ok := r.call(depth, want, vars, bound); ok {
			return e
		}
	case 13:
		if want.Kind == api.TUnit {
			t := fresh()
			if r.Intn(2) == 0 {
				return api.Expr{Op: api.EPrim, Num: api.PSet, Kids: []api.Expr{kid(plain(api.TArray, t)), kid(plain(api.TInt)), kid(t)}}
			}
			return api.Expr{Op: api.EPrim, Num: api.PWrite, Kids: []api.Expr{kid(plain(api.TRef, t)), kid(t)}}
		}
	}
	return r.leaf(depth, want, vars, bound)
}

// call applies a function that may have the result that is wanted.
func (r *forge) call(depth int, want api.Type, vars int, bound []local) (api.Expr, bool) {
	for _, f := range r.Perm(len(r.sigs)) {
		fun, sig := r.prog.Funs[f], r.sigs[f]
		met, ok := meetings(sig.Result, want)
		if !ok || slices.ContainsFunc(bound, func(l local) bool { return l.name == fun.Name }) {
			continue
		}
		var args []api.Type
		for v := range sig.Vars {
			args = append(args, r.typ(r.Intn(2), vars))
			if len(met[v]) > 0 {
				args[v] = met[v][0]
			}
		}
		e := api.Expr{Op: api.EApp, Kids: []api.Expr{name(fun.Name)}}
		for _, param := range sig.Params {
			e.Kids = append(e.Kids, r.expr(depth-1, definedSubst(param, args), vars, bound))
		}
		return e, true
	}
	return api.Expr{}, false
}

func (r *forge) match(depth int, want api.Type, vars int, bound []local) api.Expr {
	of := made(api.TData, r.Intn(len(r.data)))
	for range r.data[of.Num].Vars {
		of.Args = append(of.Args, r.typ(r.Intn(2), vars))
	}
	e := api.Expr{Op: api.EMatch, Kids: []api.Expr{r.expr(depth-1, of, vars, bound)}}
	cons := r.data[of.Num].Cons
	for _, c := range r.Perm(len(cons)) {
		alt := api.Alt{Con: cons[c].Name, Vars: r.names(len(cons[c].Args))}
		fields, _ := definedFields(r.data, of, c)
		alt.Body = r.expr(depth-1, want, vars, with(bound, alt.Vars, fields))
		e.Alts = append(e.Alts, alt)
	}
	return e
}

// leaf makes a name or a construction, or a raise if there is neither.
func (r *forge) leaf(depth int, want api.Type, vars int, bound []local) api.Expr {
	var list []api.Expr
	for _, each := range bound {
		if same(each.of, want) {
			list = append(list, name(each.name), name(each.name))
		}
	}
	for f, fun := range r.prog.Funs {
		isBound := slices.ContainsFunc(bound, func(l local) bool { return l.name == fun.Name })
		if same(plain(api.TFun, wholeOf(r.sigs[f])...), want) && !isBound {
			list = append(list, name(fun.Name))
		}
	}
	if depth > -2 {
		if e, ok := r.construction(depth, want, vars, bound); ok {
			list = append(list, e)
		}
	}
	list = append(list, api.Expr{Op: api.ERaise, Kids: []api.Expr{{Op: api.EInt}}})
	return list[r.Intn(max(1, len(list)-1))]
}

func (r *forge) construction(depth int, want api.Type, vars int, bound []local) (api.Expr, bool) {
	kids := func(types ...api.Type) []api.Expr {
		var list []api.Expr
		for _, t := range types {
			list = append(list, r.expr(depth-1, t, vars, bound))
		}
		return list
	}
	integer := plain(api.TInt)
	switch want.Kind {
	case api.TInt, api.TBool:
		return r.number(depth, want, kids)
	case api.TUnit:
		return pick(r, []api.Expr{{Op: api.EUnit}, {Op: api.ETick, Num: 3}}), true
	case api.TTuple:
		return api.Expr{Op: api.ETuple, Kids: kids(want.Args...)}, true
	case api.TArray:
		return api.Expr{Op: api.EPrim, Num: api.PNew, Kids: kids(integer, want.Args[0])}, true
	case api.TRef:
		return api.Expr{Op: api.EPrim, Num: api.PRef, Kids: kids(want.Args[0])}, true
	case api.TData:
		c := r.Intn(len(r.data[want.Num].Cons))
		fields, _ := definedFields(r.data, want, c)
		return api.Expr{Op: api.ECons, Name: r.data[want.Num].Cons[c].Name, Kids: kids(fields...)}, true
	case api.TFun:
		last := len(want.Args) - 1
		names := some(r, len(lowerNames), lowerNames)
		for len(names) < last {
			names = some(r, len(lowerNames), lowerNames)
		}
		names = names[:last]
		return api.Expr{Op: api.EFn, Names: names, Kids: []api.Expr{r.expr(depth-1, want.Args[last], vars, with(bound, names, want.Args[:last]))}}, true
	}
	return api.Expr{}, false
}

func (r *forge) number(depth int, want api.Type, kids func(...api.Type) []api.Expr) (api.Expr, bool) {
	integer := plain(api.TInt)
	if depth > 1 && r.Intn(3) > 0 {
		if want.Kind == api.TBool {
			return api.Expr{Op: api.EBin, Num: api.OpLt + r.Int63n(3), Kids: kids(integer, integer)}, true
		}
		if r.Intn(4) == 0 {
			return api.Expr{Op: api.EPrim, Num: api.PLen, Kids: kids(plain(api.TArray, r.typ(1, 0)))}, true
		}
		return api.Expr{Op: api.EBin, Num: api.OpAdd + r.Int63n(5), Kids: kids(integer, integer)}, true
	}
	if want.Kind == api.TBool {
		return api.Expr{Op: api.EBool, Num: r.Int63n(2)}, true
	}
	return api.Expr{Op: api.EInt, Num: r.Int63n(9) - 4}, true
}

// change replaces a name, or puts a copy of an expression in the place of another one.
func (r *forge) change(p *api.Prog) {
	var texts, exprs []reflect.Value
	for _, v := range parts(reflect.ValueOf(p).Elem()) {
		switch {
		case v.Kind() == reflect.String:
			texts = append(texts, v)
		case v.Type() == reflect.TypeFor[api.Expr]():
			exprs = append(exprs, v)
		}
	}
	if len(exprs) > 0 && r.Intn(3) > 0 {
		pick(r, exprs).Set(deepCopy(pick(r, exprs)))
	} else if len(texts) > 0 {
		v := pick(r, texts)
		switch name := v.String(); {
		case name == "":
		case name[0] < 'a':
			v.SetString(pick(r, upperNames))
		default:
			v.SetString(pick(r, lowerNames))
		}
	}
}

// growing makes a program with large types, of functions with two parameters.
func (r *forge) growing() api.Prog {
	var p api.Prog
	list := []string{"f", "g", "h"}[:1+r.Intn(3)]
	for _, fun := range list {
		bound := []string{"x", "y"}
		var lets []api.Expr
		any := func() api.Expr { return name(bound[max(r.Intn(len(bound)), r.Intn(len(bound)))]) }
		part := func() api.Expr {
			if r.Intn(5) > 0 {
				return api.Expr{Op: api.ETuple, Kids: []api.Expr{any(), any(), any()}[r.Intn(2):]}
			}
			return api.Expr{Op: api.EApp, Kids: []api.Expr{name(pick(r, list)), any(), any()}}
		}
		for range r.Intn(9) {
			lets = append(lets, api.Expr{Op: api.ELet, Name: string(rune('a' + len(lets))), Kids: []api.Expr{part()}})
			bound = append(bound, lets[len(lets)-1].Name)
		}
		body := pick(r, []api.Expr{{Op: api.EInt}, any(), part()})
		for _, let := range slices.Backward(lets) {
			let.Kids = append(let.Kids, body)
			body = let
		}
		p.Funs = append(p.Funs, api.FunExpr{Name: fun, Params: []string{"x", "y"}, Body: body})
	}
	return p
}

// anyType makes a type that need not be valid.
func (r *forge) anyType(depth int) api.Type {
	t := made(r.Intn(11), pick(r, []int{0, 0, 0, 1, 2, -1}))
	if r.Intn(3) > 0 {
		t.Kind = api.TVar
	}
	if depth > 0 {
		t.Kind = 1 + r.Intn(9)
		for range r.Intn(4) {
			t.Args = append(t.Args, r.anyType(r.Intn(depth)))
		}
	}
	return t
}

// changeType changes one field within a type.
func (r *forge) changeType(t *api.Type) {
	v := pick(r, fields(reflect.ValueOf(t).Elem()))
	switch {
	case v.Kind() != reflect.Slice:
		v.SetInt(v.Int() + pick(r, []int64{-1, 1, 1, 2}))
	case v.Len() > 0 && r.Intn(2) == 0:
		v.Set(deepCopy(v.Slice(0, v.Len()-1)))
	default:
		v.Set(reflect.Append(deepCopy(v), reflect.ValueOf(r.anyType(1))))
	}
}

// replaceNode puts another ground type in the place of a node.
func (r *forge) replaceNode(t *api.Type) {
	nodes := slices.DeleteFunc(parts(reflect.ValueOf(t).Elem()), func(part reflect.Value) bool { return part.Kind() != reflect.Struct })
	pick(r, nodes).Set(reflect.ValueOf(r.typ(r.Intn(2), 0)))
}

// fields returns all the numbers, strings and slices within a value.
func fields(v reflect.Value) []reflect.Value {
	return slices.DeleteFunc(parts(v), func(part reflect.Value) bool { return part.Kind() == reflect.Struct })
}

// parts returns a value and all that is within it.
func parts(v reflect.Value) []reflect.Value {
	list := []reflect.Value{v}
	switch v.Kind() {
	case reflect.Struct:
		for i := range v.NumField() {
			list = append(list, parts(v.Field(i))...)
		}
	case reflect.Slice:
		for i := range v.Len() {
			list = append(list, parts(v.Index(i))...)
		}
	}
	return list
}
