package typing

import (
	"slices"

	"amortcost/api"
	"amortcost/scope"
)

// walker types the functions of a group.
type walker struct {
	graph
	data    []api.Data
	funs    []api.FunExpr
	schemes []api.Scheme // of the functions of earlier groups
	members []*member    // by functions; nil outside of the group
	current *member
	clash   bool
}

// names is a list of bound names, the innermost one first; nil is the end of the list.
type names struct {
	name  string
	node  int
	outer *names
}

func bind(list []string, nodes []int, outer *names) *names {
	for i, name := range list {
		outer = &names{name, nodes[i], outer}
	}
	return outer
}

// typeBodies reports whether the functions of the group can be typed.
func (w *walker) typeBodies(group []int) bool {
	for _, f := range group {
		w.members[f] = &member{signature: signature{node: w.known(api.TFun, w.freshList(len(w.funs[f].Params)+1)...)}}
	}
	for _, f := range group {
		w.current = w.members[f]
		args := w.args(w.find(w.current.node))
		params, result := args[:len(args)-1], args[len(args)-1]
		w.require(&w.funs[f].Body, bind(w.funs[f].Params, params, nil), result)
	}
	return !w.clash && w.isFinite()
}

// typeOf returns a node for the type of an expression, and marks the expression.
func (w *walker) typeOf(e *api.Expr, bound *names) int {
	place := len(w.current.marks)
	w.current.marks = append(w.current.marks, mark{})
	made := w.markOf(e, bound)
	w.current.marks[place] = made
	return made.node
}

func (w *walker) typesOf(kids []api.Expr, bound *names) []int {
	list := make([]int, len(kids))
	for i := range kids {
		list[i] = w.typeOf(&kids[i], bound)
	}
	return list
}

// require types an expression whose type must be that of a node.
func (w *walker) require(e *api.Expr, bound *names, n int) {
	w.same(w.typeOf(e, bound), n)
}

func (w *walker) same(m, n int) {
	w.clash = !w.unify(m, n) || w.clash
}

// markOf types the names; the other kinds of expressions name no function.
func (w *walker) markOf(e *api.Expr, bound *names) mark {
	if e.Op != api.EVar {
		return mark{node: w.typeOfKind(e, bound)}
	}
	for ; bound != nil; bound = bound.outer {
		if bound.name == e.Name {
			return mark{node: bound.node}
		}
	}
	named := w.signatureOf(slices.IndexFunc(w.funs, func(each api.FunExpr) bool { return each.Name == e.Name }))
	return mark{named.node, named}
}

// signatureOf returns the one type of a function of the group, or an instance of the scheme of another function.
func (w *walker) signatureOf(f int) *signature {
	if w.members[f] != nil {
		return &w.members[f].signature
	}
	s := &w.schemes[f]
	whole := api.Type{Kind: api.TFun, Args: append(slices.Clone(s.Params), s.Result)}
	vars := w.freshList(s.Vars)
	return &signature{w.instance(&whole, vars), vars}
}

// typeOfKind follows the table of the chapter.
func (w *walker) typeOfKind(e *api.Expr, bound *names) int {
	switch e.Op {
	case api.EBool:
		return w.known(api.TBool)
	case api.EInt:
		return w.known(api.TInt)
	case api.ETuple:
		return w.known(api.TTuple, w.typesOf(e.Kids, bound)...)
	case api.ECons:
		return w.typeOfConstruction(e, bound)
	case api.ELet:
		first := w.typeOf(&e.Kids[0], bound)
		return w.typeOf(&e.Kids[1], &names{e.Name, first, bound})
	case api.EUntuple:
		parts := w.freshList(len(e.Names))
		w.require(&e.Kids[0], bound, w.known(api.TTuple, parts...))
		return w.typeOf(&e.Kids[1], bind(e.Names, parts, bound))
	case api.EIf:
		w.require(&e.Kids[0], bound, w.known(api.TBool))
		result := w.typeOf(&e.Kids[1], bound)
		w.require(&e.Kids[2], bound, result)
		return result
	case api.EMatch:
		return w.typeOfMatch(e, bound)
	case api.EFn:
		params := w.freshList(len(e.Names))
		result := w.typeOf(&e.Kids[0], bind(e.Names, params, bound))
		return w.known(api.TFun, append(params, result)...)
	case api.EApp:
		function, result := w.typeOf(&e.Kids[0], bound), w.fresh()
		args := w.typesOf(e.Kids[1:], bound)
		w.same(function, w.known(api.TFun, append(args, result)...))
		return result
	case api.EBin, api.EPrim:
		return w.typeOfOperation(e, bound)
	case api.ERaise:
		w.require(&e.Kids[0], bound, w.known(api.TInt))
		return w.fresh()
	case api.ETry:
		result := w.typeOf(&e.Kids[0], bound)
		w.require(&e.Kids[1], &names{e.Name, w.known(api.TInt), bound}, result)
		return result
	}
	// What is left are EUnit and ETick.
	return w.known(api.TUnit)
}

// dataType returns a node for a data type, and nodes for its parameters.
func (w *walker) dataType(d int) (int, []int) {
	params := w.freshList(w.data[d].Vars)
	return w.add(shape{kind: api.TData, num: d, args: params}), params
}

func (w *walker) typeOfConstruction(e *api.Expr, bound *names) int {
	d, c, _ := scope.Constructor(w.data, e.Name)
	made, params := w.dataType(d)
	for i := range e.Kids {
		w.require(&e.Kids[i], bound, w.instance(&w.data[d].Cons[c].Args[i], params))
	}
	return made
}

func (w *walker) typeOfMatch(e *api.Expr, bound *names) int {
	d, _, _ := scope.Constructor(w.data, e.Alts[0].Con)
	matched, params := w.dataType(d)
	w.require(&e.Kids[0], bound, matched)
	result := w.fresh()
	for i := range e.Alts {
		alt := &e.Alts[i]
		_, c, _ := scope.Constructor(w.data, alt.Con)
		fields := make([]int, len(alt.Vars))
		for field := range fields {
			fields[field] = w.instance(&w.data[d].Cons[c].Args[field], params)
		}
		w.require(&alt.Body, bind(alt.Vars, fields, bound), result)
	}
	return result
}

func (w *walker) typeOfOperation(e *api.Expr, bound *names) int {
	demands := w.primitive
	if e.Op == api.EBin {
		demands = w.operator
	}
	operands, result := demands(e.Num)
	for i := range e.Kids {
		w.require(&e.Kids[i], bound, operands[i])
	}
	return result
}

func (w *walker) operator(op int64) (operands []int, result int) {
	integer := w.known(api.TInt)
	if op == api.OpLt || op == api.OpLe || op == api.OpEq {
		return []int{integer, integer}, w.known(api.TBool)
	}
	return []int{integer, integer}, integer
}

func (w *walker) primitive(p int64) (operands []int, result int) {
	content := w.fresh()
	integer, unit := w.known(api.TInt), w.known(api.TUnit)
	array, ref := w.known(api.TArray, content), w.known(api.TRef, content)
	switch p {
	case api.PNew:
		return []int{integer, content}, array
	case api.PGet:
		return []int{array, integer}, content
	case api.PSet:
		return []int{array, integer, content}, unit
	case api.PLen:
		return []int{array}, integer
	case api.PRef:
		return []int{content}, ref
	case api.PRead:
		return []int{ref}, content
	}
	// What is left is PWrite.
	return []int{ref, content}, unit
}
