package scope_test

import (
	"maps"
	"reflect"
	"slices"
	"sort"
	"strings"

	"amortcost/api"
	"amortcost/syntax"
)

// This file reads the chapter a second time: it lists all errors of a program, of which the first one counts, and follows the definitions of the lists without any economy.

// finding is an error, with a word for what it is about.
type finding struct {
	diag  api.Diag
	about string
}

// findings collects the errors at one place of a program.
type findings struct {
	list      []finding
	fun, node int
}

func (l *findings) report(when bool, code api.Errno, about string) {
	if when {
		l.list = append(l.list, finding{api.Diag{Code: code, Fun: l.fun, Node: l.node}, about})
	}
}

// different reports whether no two of the names are equal, apart from "".
func different(names []string) bool {
	seen := map[string]int{}
	for _, name := range names {
		seen[name]++
	}
	delete(seen, "")
	for _, count := range seen {
		if count > 1 {
			return false
		}
	}
	return true
}

// flat returns the nodes of a type in preorder.
func flat(t api.TypeExpr) []api.TypeExpr {
	list := []api.TypeExpr{t}
	for _, arg := range t.Args {
		list = append(list, flat(arg)...)
	}
	return list
}

// dataFindings lists the errors of 5.1.
func dataFindings(p api.Prog) []finding {
	if !syntax.Valid(p) {
		return []finding{{api.Diag{Code: api.ErrInvalid, Fun: -1}, "tree"}}
	}
	l := findings{fun: -1}
	params := map[string]int{}
	var cons []string
	for d, decl := range p.Data {
		l.node = d
		_, known := params[decl.Name]
		l.report(known, api.ErrDuplicate, "data type")
		l.report(!different(decl.Vars), api.ErrDuplicate, "type parameter")
		params[decl.Name] = len(decl.Vars)
		self := api.TypeExpr{Kind: api.TData, Name: decl.Name}
		for _, name := range decl.Vars {
			self.Args = append(self.Args, api.TypeExpr{Kind: api.TVar, Name: name})
		}
		for _, con := range decl.Cons {
			l.report(slices.Contains(cons, con.Name), api.ErrDuplicate, "constructor")
			cons = append(cons, con.Name)
			for _, arg := range con.Args {
				for i, node := range flat(arg) {
					count, known := params[node.Name]
					isData := node.Kind == api.TData
					l.report(node.Kind == api.TVar && !slices.Contains(decl.Vars, node.Name), api.ErrName, "type variable")
					l.report(isData && !known, api.ErrName, "data type")
					l.report(isData && known && len(node.Args) != count, api.ErrArity, "data type")
					l.report(isData && node.Name == decl.Name && (i > 0 || !same(node, self)), api.ErrForm, "data type")
				}
			}
		}
	}
	return l.list
}

// definedData returns what 5.1 says of a program without errors in its declarations.
func definedData(p api.Prog) []api.Data {
	numbers := map[string]int{}
	var data []api.Data
	for d, decl := range p.Data {
		numbers[decl.Name] = d
		var resolve func(t api.TypeExpr) api.Type
		resolve = func(t api.TypeExpr) api.Type {
			made := api.Type{Kind: t.Kind}
			switch t.Kind {
			case api.TVar:
				for decl.Vars[made.Num] != t.Name {
					made.Num++
				}
			case api.TData:
				made.Num = numbers[t.Name]
			}
			for _, arg := range t.Args {
				made.Args = append(made.Args, resolve(arg))
			}
			return made
		}
		made := api.Data{Name: decl.Name, Vars: len(decl.Vars)}
		for _, con := range decl.Cons {
			list := api.Con{Name: con.Name}
			for _, arg := range con.Args {
				list.Args = append(list.Args, resolve(arg))
			}
			made.Cons = append(made.Cons, list)
		}
		data = append(data, made)
	}
	return data
}

// place is an expression of a body with the names that are bound there.
type place struct {
	expr  api.Expr
	bound map[string]bool
}

// places returns the expressions in preorder.
func places(e api.Expr, bound map[string]bool) []place {
	with := func(names ...string) map[string]bool {
		more := maps.Clone(bound)
		for _, name := range names {
			more[name] = true
		}
		delete(more, "")
		return more
	}
	list := []place{{e, bound}}
	inKid := []map[string]bool{bound, bound, bound, bound, bound, bound, bound}
	switch e.Op {
	case api.ELet, api.ETry:
		inKid[1] = with(e.Name)
	case api.EUntuple:
		inKid[1] = with(e.Names...)
	case api.EFn:
		inKid[0] = with(e.Names...)
	}
	for i, kid := range e.Kids {
		list = append(list, places(kid, inKid[i])...)
	}
	for _, alt := range e.Alts {
		list = append(list, places(alt.Body, with(alt.Vars...))...)
	}
	return list
}

func bodyPlaces(f api.FunExpr) []place {
	bound := map[string]bool{}
	for _, name := range f.Params {
		bound[name] = true
	}
	return places(f.Body, bound)
}

// named returns the function that an expression names, or -1.
func (at place) named(p api.Prog) int {
	for f, fun := range p.Funs {
		if at.expr.Op == api.EVar && !at.bound[at.expr.Name] && fun.Name == at.expr.Name {
			return f
		}
	}
	return -1
}

// checkFindings lists the errors of 5.2.
func checkFindings(p api.Prog) []finding {
	if list := dataFindings(p); len(list) > 0 {
		return list
	}
	arities := map[string]int{}
	for _, decl := range p.Data {
		for _, con := range decl.Cons {
			arities[con.Name] = len(con.Args)
		}
	}
	var l findings
	var names []string
	for f, fun := range p.Funs {
		l.fun, l.node = f, 0
		l.report(slices.Contains(names, fun.Name), api.ErrDuplicate, "function")
		l.report(!different(fun.Params), api.ErrDuplicate, "parameter")
		names = append(names, fun.Name)
		for node, at := range bodyPlaces(fun) {
			l.node = node
			l.look(p, at, arities)
		}
	}
	return l.list
}

func (l *findings) look(p api.Prog, at place, arities map[string]int) {
	e := at.expr
	switch e.Op {
	case api.EVar:
		l.report(!at.bound[e.Name] && at.named(p) < 0, api.ErrName, "variable")
	case api.ECons:
		count, known := arities[e.Name]
		l.report(!known, api.ErrName, "construction")
		l.report(known && count != len(e.Kids), api.ErrArity, "construction")
	case api.EUntuple:
		l.report(!different(e.Names), api.ErrDuplicate, "components")
	case api.EFn:
		l.report(!different(e.Names), api.ErrDuplicate, "fn")
	case api.EMatch:
		var cons []string
		for _, alt := range e.Alts {
			count, known := arities[alt.Con]
			l.report(!known, api.ErrName, "alternative")
			l.report(known && count != len(alt.Vars), api.ErrArity, "alternative")
			l.report(!different(alt.Vars), api.ErrDuplicate, "alternative")
			cons = append(cons, alt.Con)
		}
		l.report(!isOneType(p, cons), api.ErrForm, "match")
	case api.EApp:
		f := (place{e.Kids[0], at.bound}).named(p)
		l.report(f >= 0 && len(p.Funs[max(f, 0)].Params) != len(e.Kids[1:]), api.ErrArity, "application")
	}
}

// isOneType reports whether names are those of the constructors of one data type, in any order.
func isOneType(p api.Prog, cons []string) bool {
	sorted := func(names []string) string {
		names = slices.Clone(names)
		sort.Strings(names)
		return strings.Join(names, " ")
	}
	for _, decl := range p.Data {
		var names []string
		for _, con := range decl.Cons {
			names = append(names, con.Name)
		}
		if sorted(names) == sorted(cons) {
			return true
		}
	}
	return false
}

func firstOf(list []finding) api.Diag {
	if len(list) == 0 {
		return api.Diag{}
	}
	return list[0].diag
}

// definedCalls returns what 5.3 says of a program without errors.
func definedCalls(p api.Prog) [][]int {
	var calls [][]int
	for _, fun := range p.Funs {
		list := []int{}
		for f := range p.Funs {
			if slices.ContainsFunc(bodyPlaces(fun), func(at place) bool { return at.named(p) == f }) {
				list = append(list, f)
			}
		}
		calls = append(calls, list)
	}
	return calls
}

// definedGroups returns the components of a graph in the order of 5.3.
func definedGroups(calls [][]int) [][]int {
	n := len(calls)
	leads := make([][]bool, n)
	for f := range n {
		leads[f] = make([]bool, n)
		for g := range n {
			leads[f][g] = f == g || slices.Contains(calls[f], g)
		}
	}
	for via := range n {
		for f := range n {
			for g := range n {
				leads[f][g] = leads[f][g] || leads[f][via] && leads[via][g]
			}
		}
	}
	member := make([]int, n) // by the least member
	for f := range n {
		for !leads[f][member[f]] || !leads[member[f]][f] {
			member[f]++
		}
	}
	var groups [][]int
	listed := map[int]bool{}
	for len(listed) < n {
		best := n
		for least := range n {
			if member[least] != least || listed[least] {
				continue
			}
			names := true
			for f := range n {
				for _, g := range calls[f] {
					names = names && (member[f] != least || member[g] == least || listed[g])
				}
			}
			if names && least < best {
				best = least
			}
		}
		var group []int
		for f := range n {
			if member[f] == best {
				group = append(group, f)
				listed[f] = true
			}
		}
		groups = append(groups, group)
	}
	return groups
}

// copyOf shares no memory with v, and leaves out the difference between nil and empty slices.
func copyOf[T any](v T) T {
	return deepCopy(reflect.ValueOf(v)).Interface().(T)
}

func deepCopy(v reflect.Value) reflect.Value {
	c := reflect.New(v.Type()).Elem()
	switch v.Kind() {
	case reflect.Struct:
		for i := range v.NumField() {
			c.Field(i).Set(deepCopy(v.Field(i)))
		}
	case reflect.Slice:
		for i := range v.Len() {
			c.Set(reflect.Append(c, deepCopy(v.Index(i))))
		}
	default:
		c.Set(v)
	}
	return c
}

func same[T any](a, b T) bool {
	return reflect.DeepEqual(copyOf(a), copyOf(b))
}
