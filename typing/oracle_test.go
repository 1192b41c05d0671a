package typing_test

import (
	"maps"
	"reflect"
	"slices"
	"strconv"
	"strings"
	"testing"

	"amortcost/api"
	"amortcost/scope"
	"amortcost/syntax"
)

// This file reads the chapter a second time. Types are trees of pointers here, and each kind of expressions is a row that says what its parts must be.

// cell is a type: another one if it has a link, and a type that is not known yet if it is open.
type cell struct {
	link      *cell
	open      bool
	kind, num int
	args      []*cell
}

func free() *cell {
	return &cell{open: true}
}

func cells(count int) []*cell {
	var list []*cell
	for range count {
		list = append(list, free())
	}
	return list
}

func closed(kind int, args ...*cell) *cell {
	return &cell{kind: kind, args: args}
}

func (c *cell) end() *cell {
	for c.link != nil {
		c = c.link
	}
	return c
}

func (c *cell) contains(other *cell) bool {
	c = c.end()
	return c == other || slices.ContainsFunc(c.args, func(arg *cell) bool { return arg.contains(other) })
}

// equate makes two types equal. It reports whether there are finite types.
func equate(a, b *cell) bool {
	a, b = a.end(), b.end()
	if b.open {
		a, b = b, a
	}
	switch {
	case a == b:
		return true
	case a.open:
		if b.contains(a) {
			return false
		}
		a.link = b
		return true
	case a.kind != b.kind || a.num != b.num || len(a.args) != len(b.args):
		return false
	}
	for i := range a.args {
		if !equate(a.args[i], b.args[i]) {
			return false
		}
	}
	return true
}

// put makes a type with cells in the place of its variables.
func put(t api.Type, vars []*cell) *cell {
	if t.Kind == api.TVar {
		return vars[t.Num]
	}
	c := &cell{kind: t.Kind, num: t.Num}
	for _, arg := range t.Args {
		c.args = append(c.args, put(arg, vars))
	}
	return c
}

func putAll(types []api.Type, vars []*cell) []*cell {
	var list []*cell
	for _, t := range types {
		list = append(list, put(t, vars))
	}
	return list
}

// row is what an expression demands: the types of the kids, what each kid's scope gains, and the type of the expression; for the alternatives likewise.
type row struct {
	kids   []*cell
	gains  []map[string]*cell
	bodies *cell
	alts   []map[string]*cell
	result *cell
}

func together(list []string, types []*cell) map[string]*cell {
	gained := map[string]*cell{}
	for i, name := range list {
		gained[name] = types[i]
	}
	return gained
}

// rowOf follows the table of the chapter for all expressions but EVar.
func rowOf(data []api.Data, e api.Expr) row {
	num, truth, void, t, u := closed(api.TInt), closed(api.TBool), closed(api.TUnit), free(), free()
	none := map[string]*cell{}
	several := cells(max(len(e.Names), len(e.Kids)))
	switch e.Op {
	case api.EUnit, api.ETick:
		return row{result: void}
	case api.EBool:
		return row{result: truth}
	case api.EInt:
		return row{result: num}
	case api.ETuple:
		return row{kids: several, result: closed(api.TTuple, several...)}
	case api.ECons:
		d, c := find(data, e.Name)
		params := cells(data[d].Vars)
		return row{kids: putAll(data[d].Cons[c].Args, params), result: &cell{kind: api.TData, num: d, args: params}}
	case api.ELet:
		return row{kids: []*cell{t, u}, gains: []map[string]*cell{none, {e.Name: t}}, result: u}
	case api.EUntuple:
		return row{kids: []*cell{closed(api.TTuple, several...), u}, gains: []map[string]*cell{none, together(e.Names, several)}, result: u}
	case api.EIf:
		return row{kids: []*cell{truth, t, t}, result: t}
	case api.EMatch:
		d, _ := find(data, e.Alts[0].Con)
		params := cells(data[d].Vars)
		r := row{kids: []*cell{{kind: api.TData, num: d, args: params}}, bodies: t, result: t}
		for _, alt := range e.Alts {
			_, c := find(data, alt.Con)
			r.alts = append(r.alts, together(alt.Vars, putAll(data[d].Cons[c].Args, params)))
		}
		return r
	case api.EFn:
		names := several[:len(e.Names)]
		return row{kids: []*cell{u}, gains: []map[string]*cell{together(e.Names, names)}, result: closed(api.TFun, slices.Concat(names, []*cell{u})...)}
	case api.EApp:
		return row{kids: append([]*cell{closed(api.TFun, append(several[1:len(e.Kids):len(e.Kids)], t)...)}, several[1:]...), result: t}
	case api.EBin:
		return row{kids: []*cell{num, num}, result: map[bool]*cell{false: num, true: truth}[e.Num >= api.OpLt]}
	case api.EPrim:
		return primitiveRow(e.Num, t)
	case api.ERaise:
		return row{kids: []*cell{num}, result: t}
	case api.ETry:
		return row{kids: []*cell{t, t}, gains: []map[string]*cell{none, {e.Name: num}}, result: t}
	}
	panic(e.Op)
}

func primitiveRow(p int64, t *cell) row {
	num, void := closed(api.TInt), closed(api.TUnit)
	array, ref := closed(api.TArray, t), closed(api.TRef, t)
	return map[int64]row{
		api.PNew:   {kids: []*cell{num, t}, result: array},
		api.PGet:   {kids: []*cell{array, num}, result: t},
		api.PSet:   {kids: []*cell{array, num, t}, result: void},
		api.PLen:   {kids: []*cell{array}, result: num},
		api.PRef:   {kids: []*cell{t}, result: ref},
		api.PRead:  {kids: []*cell{ref}, result: t},
		api.PWrite: {kids: []*cell{ref, t}, result: void},
	}[p]
}

// find returns the place of a constructor.
func find(data []api.Data, name string) (int, int) {
	for d := range data {
		for c := range data[d].Cons {
			if data[d].Cons[c].Name == name {
				return d, c
			}
		}
	}
	panic(name)
}

// use is an expression that has been typed; it names a function if args is not nil, or peer is a function of the same group.
type use struct {
	result *cell
	args   []*cell
	peer   string
}

// solver types functions. It asks named for the types of those that are named.
type solver struct {
	data   []api.Data
	named  func(name string) use
	uses   []use
	failed bool
}

func (s *solver) equal(a, b *cell) {
	s.failed = s.failed || !equate(a, b)
}

func (s *solver) walk(e api.Expr, bound map[string]*cell, want *cell) {
	place := len(s.uses)
	s.uses = append(s.uses, use{result: want})
	if s.failed {
		return
	}
	if e.Op == api.EVar {
		if t := bound[e.Name]; t != nil {
			s.equal(want, t)
			return
		}
		s.uses[place] = s.named(e.Name)
		s.equal(want, s.uses[place].result)
		return
	}
	r := rowOf(s.data, e)
	s.equal(want, r.result)
	with := func(gained []map[string]*cell, i int) map[string]*cell {
		inner := maps.Clone(bound)
		if len(gained) > 0 {
			maps.Copy(inner, gained[i])
		}
		delete(inner, "")
		return inner
	}
	for i, kid := range e.Kids {
		s.walk(kid, with(r.gains, i), r.kids[i])
	}
	for i, alt := range e.Alts {
		s.walk(alt.Body, with(r.alts, i), r.bodies)
	}
}

func (s *solver) function(fun api.FunExpr, types []*cell) []use {
	s.uses = nil
	last := len(types) - 1
	s.walk(fun.Body, together(fun.Params, types[:last]), types[last])
	return s.uses
}

// definedTyping is what 6.1 says of a program.
func definedTyping(p api.Prog) (api.Typing, api.Diag) {
	if diag := scope.Check(p); diag.Code != api.OK {
		return api.Typing{}, diag
	}
	done := api.Typing{Schemes: make([]api.Scheme, len(p.Funs)), Notes: make([][]api.Note, len(p.Funs))}
	for _, group := range scope.Groups(p) {
		if diag := definedGroup(p, group, done); diag.Code != api.OK {
			return api.Typing{}, diag
		}
	}
	return done, api.Diag{}
}

// solverOf types functions of a group, whose types are in own.
func solverOf(p api.Prog, own map[string][]*cell, schemes []api.Scheme) solver {
	data, _ := scope.Data(p)
	return solver{data: data, named: func(name string) use {
		if own[name] != nil {
			return use{result: closed(api.TFun, own[name]...), peer: name}
		}
		scheme := schemes[slices.IndexFunc(p.Funs, func(fun api.FunExpr) bool { return fun.Name == name })]
		vars := cells(scheme.Vars)
		return use{closed(api.TFun, putAll(wholeOf(scheme), vars)...), vars, ""}
	}}
}

func definedGroup(p api.Prog, group []int, done api.Typing) api.Diag {
	own := map[string][]*cell{}
	for _, f := range group {
		own[p.Funs[f].Name] = cells(len(p.Funs[f].Params) + 1)
	}
	s := solverOf(p, own, done.Schemes)
	uses := map[int][]use{}
	for _, f := range group {
		uses[f] = s.function(p.Funs[f], own[p.Funs[f].Name])
	}
	if s.failed {
		return api.Diag{Code: api.ErrType, Fun: group[0]}
	}
	vars := map[string][]*cell{}
	for _, f := range group {
		name := p.Funs[f].Name
		vars[name] = openIn(own[name])
	}
	for _, f := range group {
		name := p.Funs[f].Name
		types := allIn(own[name], vars[name])
		last := len(types) - 1
		done.Schemes[f] = api.Scheme{Vars: len(vars[name]), Params: types[:last], Result: types[last]}
		list := slices.Clone(types)
		for _, each := range uses[f] {
			args := append(each.args, vars[each.peer]...)
			note := api.Note{Type: typeIn(each.result, vars[name]), Args: allIn(args, vars[name])}
			list = append(append(list, note.Type), note.Args...)
			done.Notes[f] = append(done.Notes[f], note)
		}
		for _, t := range list {
			if len(flat(t)) > 200 {
				return api.Diag{Code: api.ErrLimit, Fun: f}
			}
		}
	}
	return api.Diag{}
}

// openIn returns the types that are not known, in preorder.
func openIn(types []*cell) []*cell {
	var list []*cell
	for _, c := range types {
		c = c.end()
		inner := openIn(c.args)
		if c.open {
			inner = []*cell{c}
		}
		for _, each := range inner {
			if !slices.Contains(list, each) {
				list = append(list, each)
			}
		}
	}
	return list
}

func typeIn(c *cell, vars []*cell) api.Type {
	c = c.end()
	if v := slices.Index(vars, c); v >= 0 {
		return api.Type{Kind: api.TVar, Num: v}
	}
	if c.open {
		return api.Type{Kind: api.TUnit}
	}
	return api.Type{Kind: c.kind, Num: c.num, Args: allIn(c.args, vars)}
}

func allIn(list []*cell, vars []*cell) []api.Type {
	var types []api.Type
	for _, c := range list {
		types = append(types, typeIn(c, vars))
	}
	return types
}

// expectTable expects that the notes satisfy the table, with types of their own in the place of the variables of a scheme.
func expectTable(t *testing.T, p api.Prog, got api.Typing) {
	t.Helper()
	data, _ := scope.Data(p)
	for f, fun := range p.Funs {
		var vars []*cell
		for v := range got.Schemes[f].Vars {
			vars = append(vars, &cell{kind: -1, num: v})
		}
		s := solver{data: data, named: func(name string) use { return use{result: free(), peer: name} }}
		for i, each := range s.function(fun, putAll(wholeOf(got.Schemes[f]), vars)) {
			note := got.Notes[f][i]
			s.equal(each.result, put(note.Type, vars))
			if each.peer == "" {
				s.failed = s.failed || len(note.Args) > 0
				continue
			}
			scheme := got.Schemes[slices.IndexFunc(p.Funs, func(fun api.FunExpr) bool { return fun.Name == each.peer })]
			if len(note.Args) != scheme.Vars {
				t.Fatalf("%s: %v for %v", syntax.Format(p), note, scheme)
			}
			s.equal(each.result, closed(api.TFun, putAll(wholeOf(scheme), putAll(note.Args, vars))...))
		}
		if s.failed {
			t.Errorf("%s: the notes of function %d do not satisfy the table", syntax.Format(p), f)
		}
	}
}

// wholeOf returns the types of the parameters and the result.
func wholeOf(scheme api.Scheme) []api.Type {
	return append(slices.Clone(scheme.Params), scheme.Result)
}

// flat returns the nodes of a type in preorder.
func flat(t api.Type) []api.Type {
	list := []api.Type{t}
	for _, arg := range t.Args {
		list = append(list, flat(arg)...)
	}
	return list
}

// definedSubst is what 6.2 says of Subst.
func definedSubst(t api.Type, args []api.Type) api.Type {
	for i, arg := range args {
		if t.Kind == api.TVar && t.Num == i {
			return arg
		}
	}
	made := api.Type{Kind: t.Kind, Num: t.Num}
	for _, arg := range t.Args {
		made.Args = append(made.Args, definedSubst(arg, args))
	}
	return made
}

// meetings returns for each variable of t the parts of u in its place, and whether the other nodes correspond.
func meetings(t, u api.Type) (map[int][]api.Type, bool) {
	if t.Kind == api.TVar {
		return map[int][]api.Type{t.Num: {u}}, true
	}
	met, ok := map[int][]api.Type{}, t.Kind == u.Kind && t.Num == u.Num && len(t.Args) == len(u.Args)
	for i := 0; ok && i < len(t.Args); i++ {
		var inner map[int][]api.Type
		inner, ok = meetings(t.Args[i], u.Args[i])
		for v, list := range inner {
			met[v] = append(met[v], list...)
		}
	}
	return met, ok
}

// definedMatch is what 6.3 says of Match.
func definedMatch(t, u api.Type) ([]api.Type, bool) {
	met, ok := meetings(t, u)
	var types []api.Type
	for v, list := range met {
		if v < 0 || v > 100 {
			return nil, false
		}
		for len(types) <= v {
			types = append(types, api.Type{Kind: api.TUnit})
		}
		types[v] = list[0]
		for _, other := range list {
			ok = ok && same(other, list[0])
		}
	}
	if !ok {
		return nil, false
	}
	return types, true
}

// definedFields is what 6.4 says of Fields.
func definedFields(data []api.Data, t api.Type, c int) ([]api.Type, bool) {
	for d, decl := range data {
		if t.Kind != api.TData || t.Num != d || len(t.Args) != decl.Vars {
			continue
		}
		for i, con := range decl.Cons {
			if i != c {
				continue
			}
			var fields []api.Type
			for _, arg := range con.Args {
				fields = append(fields, definedSubst(arg, t.Args))
			}
			if slices.ContainsFunc(fields, func(field api.Type) bool { return len(flat(field)) > 200 }) {
				return nil, false
			}
			return fields, true
		}
	}
	return nil, false
}

// definedValid is what the chapter says of valid types.
func definedValid(data []api.Data, t api.Type, vars int) bool {
	list := flat(t)
	for _, node := range list {
		count := len(node.Args)
		ok := false
		switch node.Kind {
		case api.TInt, api.TBool, api.TUnit:
			ok = count == 0 && node.Num == 0
		case api.TVar:
			for v := range vars {
				ok = ok || v == node.Num && count == 0
			}
		case api.TData:
			for d := range data {
				ok = ok || d == node.Num && count == data[d].Vars
			}
		case api.TTuple:
			ok = slices.Contains([]int{2, 3, 4, 5, 6}, count) && node.Num == 0
		case api.TArray, api.TRef:
			ok = count == 1 && node.Num == 0
		case api.TFun:
			ok = slices.Contains([]int{1, 2, 3, 4, 5, 6, 7}, count) && node.Num == 0
		}
		if !ok {
			return false
		}
	}
	return len(list) <= 200
}

// definedFormat is what 6.5 says of Format.
func definedFormat(data []api.Data, t api.Type) string {
	if !definedValid(data, t, 101) {
		return ""
	}
	var args []string
	for _, arg := range t.Args {
		args = append(args, definedFormat(data, arg))
	}
	all := "(" + strings.Join(args, ", ") + ")"
	switch t.Kind {
	case api.TVar:
		return "a" + strconv.Itoa(t.Num)
	case api.TData:
		if len(args) == 0 {
			return data[t.Num].Name
		}
		return data[t.Num].Name + all
	case api.TFun:
		last := len(args) - 1
		return "fn(" + strings.Join(args[:last], ", ") + ") -> " + args[last]
	case api.TTuple:
		return all
	case api.TArray:
		return "array" + all
	case api.TRef:
		return "ref" + all
	}
	return map[int]string{api.TInt: "int", api.TBool: "bool", api.TUnit: "unit"}[t.Kind]
}

// copyOf shares no memory with v, and leaves out the difference between nil and empty slices.
func copyOf[T any](v T) T {
	return deepCopy(reflect.ValueOf(v)).Interface().(T)
}

func deepCopy(v reflect.Value) reflect.Value {
	c := reflect.New(v.Type()).Elem()
	switch v.Kind() {
	case reflect.Struct:
		for i := range v.NumField() {
			c.Field(i).Set(deepCopy(v.Field(i)))
		}
	case reflect.Slice:
		for i := range v.Len() {
			c.Set(reflect.Append(c, deepCopy(v.Index(i))))
		}
	default:
		c.Set(v)
	}
	return c
}

func same[T any](a, b T) bool {
	return reflect.DeepEqual(copyOf(a), copyOf(b))
}
