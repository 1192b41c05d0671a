package syntax_test

import (
	"fmt"
	"math/rand"
	"reflect"
	"regexp"
	"slices"
	"strings"

	"amortcost/api"
)

// This file contains what the chapter says of trees, in tables, and trees at random.

var keywords = strings.Fields("array bool catch data else end false fn fun get if in int len let match new raise read ref set then tick true try unit with write")

var (
	nameForm  = regexp.MustCompile(`\A[a-z][a-zA-Z0-9_]{0,23}\z`)
	upperForm = regexp.MustCompile(`\A[A-Z][a-zA-Z0-9_]{0,23}\z`)
)

func isName(s string) bool {
	return nameForm.MatchString(s) && !slices.Contains(keywords, s)
}

func isBind(s string) bool {
	return s == "" || isName(s)
}

var isUpper = upperForm.MatchString

func isEmpty(s string) bool {
	return s == ""
}

// all reports whether there are from least to most strings, all of a class.
func all(list []string, least, most int, class func(string) bool) bool {
	return len(list) >= least && len(list) <= most && !slices.ContainsFunc(list, func(s string) bool { return !class(s) })
}

// row is what the fields of a kind of nodes are.
type row struct {
	name                func(string) bool
	lowNum, highNum     int64
	names               func(string) bool
	lowNames, highNames int
	lowKids, highKids   int
	lowAlts, highAlts   int
}

func rowOf(op int, num int64) (row, bool) {
	rows := map[int]row{
		api.EUnit:    {},
		api.EBool:    {highNum: 1},
		api.EInt:     {lowNum: -1000000, highNum: 1000000},
		api.EVar:     {name: isName},
		api.ETuple:   {lowKids: 2, highKids: 6},
		api.ECons:    {name: isUpper, highKids: 6},
		api.ELet:     {name: isBind, lowKids: 2, highKids: 2},
		api.EUntuple: {names: isBind, lowNames: 2, highNames: 6, lowKids: 2, highKids: 2},
		api.EIf:      {lowKids: 3, highKids: 3},
		api.EMatch:   {lowKids: 1, highKids: 1, lowAlts: 1, highAlts: 1 << 30},
		api.EFn:      {names: isName, highNames: 6, lowKids: 1, highKids: 1},
		api.EApp:     {lowKids: 1, highKids: 7},
		api.EBin:     {lowNum: 1, highNum: 8, lowKids: 2, highKids: 2},
		api.ETick:    {lowNum: -1000, highNum: 1000},
		api.ERaise:   {lowKids: 1, highKids: 1},
		api.ETry:     {name: isBind, lowKids: 2, highKids: 2},
	}
	if op == api.EPrim {
		counts := map[int64]int{api.PNew: 2, api.PGet: 2, api.PSet: 3, api.PLen: 1, api.PRef: 1, api.PRead: 1, api.PWrite: 2}
		return row{lowNum: 1, highNum: 7, lowKids: counts[num], highKids: counts[num]}, true
	}
	r, ok := rows[op]
	return r, ok
}

func rightNode(e api.Expr) bool {
	r, ok := rowOf(e.Op, e.Num)
	if !ok {
		return false
	}
	name, names := r.name, r.names
	if name == nil {
		name = isEmpty
	}
	if names == nil {
		names = isEmpty
	}
	ok = name(e.Name) && e.Num >= r.lowNum && e.Num <= r.highNum && all(e.Names, r.lowNames, r.highNames, names) &&
		len(e.Kids) >= r.lowKids && len(e.Kids) <= r.highKids && len(e.Alts) >= r.lowAlts && len(e.Alts) <= r.highAlts
	for _, alt := range e.Alts {
		ok = ok && isUpper(alt.Con) && all(alt.Vars, 0, 6, isBind)
	}
	return ok
}

func rightType(t api.TypeExpr) bool {
	counts := map[int][2]int{
		api.TInt: {0, 0}, api.TBool: {0, 0}, api.TUnit: {0, 0}, api.TVar: {0, 0}, api.TData: {0, 6}, api.TTuple: {2, 6}, api.TArray: {1, 1}, api.TRef: {1, 1}, api.TFun: {1, 7},
	}
	names := map[int]func(string) bool{api.TVar: isName, api.TData: isUpper}
	name := names[t.Kind]
	if name == nil {
		name = isEmpty
	}
	count, ok := counts[t.Kind]
	return ok && name(t.Name) && len(t.Args) >= count[0] && len(t.Args) <= count[1]
}

func below(e api.Expr) []api.Expr {
	list := slices.Clone(e.Kids)
	for _, alt := range e.Alts {
		list = append(list, alt.Body)
	}
	return list
}

func preorder(e api.Expr) []api.Expr {
	list := []api.Expr{e}
	for _, each := range below(e) {
		list = append(list, preorder(each)...)
	}
	return list
}

func height(e api.Expr) int {
	most := 0
	for _, each := range below(e) {
		most = max(most, height(each))
	}
	return most + 1
}

func typeNodes(t api.TypeExpr) (list []api.TypeExpr, high int) {
	list = []api.TypeExpr{t}
	for _, arg := range t.Args {
		inner, h := typeNodes(arg)
		list, high = append(list, inner...), max(high, h)
	}
	return list, high + 1
}

func definedValid(p api.Prog) bool {
	ok := len(p.Data) <= 12 && len(p.Funs) <= 24
	nodes := 0
	for _, d := range p.Data {
		ok = ok && isUpper(d.Name) && all(d.Vars, 0, 6, isName) && len(d.Cons) >= 1 && len(d.Cons) <= 8
		for _, c := range d.Cons {
			ok = ok && isUpper(c.Name) && len(c.Args) <= 6
			for _, t := range c.Args {
				list, high := typeNodes(t)
				ok = ok && high <= 40 && !slices.ContainsFunc(list, func(t api.TypeExpr) bool { return !rightType(t) })
			}
		}
	}
	for _, f := range p.Funs {
		list := preorder(f.Body)
		nodes += len(list)
		ok = ok && isName(f.Name) && all(f.Params, 0, 6, isName) && height(f.Body) <= 40 && !slices.ContainsFunc(list, func(e api.Expr) bool { return !rightNode(e) })
	}
	return ok && nodes <= 600
}

// printer writes texts. Its extra decides whether an expression gets parentheses that its place does not demand.
type printer struct {
	extra func() bool
}

// plain writes what Format has to write.
var plain = printer{func() bool { return false }}

func orBlank(list []string) []string {
	list = slices.Clone(list)
	for i, s := range list {
		if s == "" {
			list[i] = "_"
		}
	}
	return list
}

func (w printer) typeOf(t api.TypeExpr) string {
	var args []string
	for _, arg := range t.Args {
		args = append(args, w.typeOf(arg))
	}
	list := strings.Join(args, ", ")
	switch t.Kind {
	case api.TInt, api.TBool, api.TUnit:
		return []string{"", "int", "bool", "unit"}[t.Kind]
	case api.TFun:
		last := len(args) - 1
		return "fn(" + strings.Join(args[:last], ", ") + ") -> " + args[last]
	case api.TTuple:
		return "(" + list + ")"
	case api.TArray:
		return "array(" + list + ")"
	case api.TRef:
		return "ref(" + list + ")"
	}
	if len(args) > 0 {
		return t.Name + "(" + list + ")"
	}
	return t.Name
}

// places has for each operator its sign, its level, and the levels that it demands of its operands.
var places = map[int64]struct {
	sign               string
	level, left, right int
}{
	api.OpLt: {"<", 1, 2, 2}, api.OpLe: {"<=", 1, 2, 2}, api.OpEq: {"==", 1, 2, 2},
	api.OpAdd: {"+", 2, 2, 3}, api.OpSub: {"-", 2, 2, 3},
	api.OpMul: {"*", 3, 3, 4}, api.OpDiv: {"/", 3, 3, 4}, api.OpMod: {"%", 3, 3, 4},
}

func levelOf(e api.Expr) int {
	switch e.Op {
	case api.ELet, api.EUntuple, api.EIf, api.EMatch, api.EFn, api.ETry:
		return 0
	case api.EBin:
		return places[e.Num].level
	case api.EApp:
		return 4
	}
	return 5
}

func (w printer) at(place int, e api.Expr) string {
	text := w.bare(e)
	if levelOf(e) < place || w.extra() {
		text = "(" + text + ")"
	}
	return text
}

func (w printer) list(exprs []api.Expr) string {
	var texts []string
	for _, e := range exprs {
		texts = append(texts, w.at(0, e))
	}
	return strings.Join(texts, ", ")
}

func (w printer) bare(e api.Expr) string {
	kid := func(i int) string { return w.at(0, e.Kids[i]) }
	names := "(" + strings.Join(orBlank(e.Names), ", ") + ")"
	name := orBlank([]string{e.Name})[0]
	switch e.Op {
	case api.EUnit:
		return "()"
	case api.EBool:
		return []string{"false", "true"}[e.Num]
	case api.EInt:
		return fmt.Sprint(e.Num)
	case api.EVar:
		return e.Name
	case api.ETuple:
		return "(" + w.list(e.Kids) + ")"
	case api.ECons:
		if len(e.Kids) == 0 {
			return e.Name
		}
		return e.Name + "(" + w.list(e.Kids) + ")"
	case api.ELet:
		return "let " + name + " = " + kid(0) + " in " + kid(1)
	case api.EUntuple:
		return "let " + names + " = " + kid(0) + " in " + kid(1)
	case api.EIf:
		return "if " + kid(0) + " then " + kid(1) + " else " + kid(2)
	case api.EMatch:
		var alts []string
		for _, alt := range e.Alts {
			text := alt.Con
			if len(alt.Vars) > 0 {
				text += "(" + strings.Join(orBlank(alt.Vars), ", ") + ")"
			}
			alts = append(alts, text+" -> "+w.at(0, alt.Body))
		}
		return "match " + kid(0) + " with " + strings.Join(alts, " | ") + " end"
	case api.EFn:
		return "fn" + names + " -> " + kid(0)
	case api.EApp:
		function := w.at(4, e.Kids[0])
		if f := e.Kids[0]; f.Op == api.ECons && len(f.Kids) == 0 && !strings.HasPrefix(function, "(") {
			function = "(" + function + ")"
		}
		return function + "(" + w.list(e.Kids[1:]) + ")"
	case api.EBin:
		p := places[e.Num]
		return w.at(p.left, e.Kids[0]) + " " + p.sign + " " + w.at(p.right, e.Kids[1])
	case api.EPrim:
		return strings.Fields("new get set len ref read write")[e.Num-1] + "(" + w.list(e.Kids) + ")"
	case api.ETick:
		return "tick(" + fmt.Sprint(e.Num) + ")"
	case api.ERaise:
		return "raise(" + kid(0) + ")"
	case api.ETry:
		return "try " + kid(0) + " catch " + name + " -> " + kid(1) + " end"
	}
	panic(e.Op)
}

func (w printer) prog(p api.Prog) string {
	var text string
	for _, d := range p.Data {
		text += "data " + d.Name
		if len(d.Vars) > 0 {
			text += "(" + strings.Join(d.Vars, ", ") + ")"
		}
		var cons []string
		for _, c := range d.Cons {
			cons = append(cons, w.typeOf(api.TypeExpr{Kind: api.TData, Name: c.Name, Args: c.Args}))
		}
		text += " = " + strings.Join(cons, " | ") + ";\n"
	}
	for _, f := range p.Funs {
		text += "fun " + f.Name + "(" + strings.Join(f.Params, ", ") + ") = " + w.at(0, f.Body) + ";\n"
	}
	return text
}

// forge makes trees at random.
type forge struct {
	*rand.Rand
}

func (r forge) pick(list ...string) string {
	return list[r.Intn(len(list))]
}

func (r forge) name() string {
	return r.pick("x", "y", "f", "zZ_9", "lets", "i", strings.Repeat("n", 24))
}

func (r forge) upper() string {
	return r.pick("C", "N", "L", "Data", "B_1", strings.Repeat("U", 24))
}

func (r forge) bind() string {
	return r.pick("", r.name())
}

func several[T any](r forge, least, most int, make func() T) []T {
	var list []T
	for range least + r.Intn(most-least+1) {
		list = append(list, make())
	}
	return list
}

func (r forge) expr(depth int) api.Expr {
	kid := func() api.Expr { return r.expr(depth - 1) }
	op := 1 + r.Intn(17)
	if depth <= 1 {
		op = []int{api.EUnit, api.EBool, api.EInt, api.EVar, api.ECons, api.ETick}[r.Intn(6)]
	}
	e := api.Expr{Op: op}
	kids := map[int]int{api.ELet: 2, api.EUntuple: 2, api.EIf: 3, api.EMatch: 1, api.EFn: 1, api.EBin: 2, api.ERaise: 1, api.ETry: 2}[op]
	e.Kids = several(r, kids, kids, kid)
	switch op {
	case api.EBool:
		e.Num = r.Int63n(2)
	case api.EInt:
		e.Num = []int64{0, 1, -1, 7, -42, 1000000, -1000000}[r.Intn(7)]
	case api.EVar:
		e.Name = r.name()
	case api.ETuple:
		e.Kids = several(r, 2, 3, kid)
	case api.ECons:
		e.Name = r.upper()
		if depth > 1 {
			e.Kids = several(r, 0, 3, kid)
		}
	case api.ELet, api.ETry:
		e.Name = r.bind()
	case api.EUntuple:
		e.Names = several(r, 2, 6, r.bind)
	case api.EMatch:
		e.Alts = several(r, 1, 3, func() api.Alt { return api.Alt{Con: r.upper(), Vars: several(r, 0, 3, r.bind), Body: kid()} })
	case api.EFn:
		e.Names = several(r, 0, 6, r.name)
	case api.EApp:
		e.Kids = several(r, 1, 3, kid)
	case api.EBin:
		e.Num = 1 + r.Int63n(8)
	case api.EPrim:
		e.Num = 1 + r.Int63n(7)
		count := []int{0, 2, 2, 3, 1, 1, 1, 2}[e.Num]
		e.Kids = several(r, count, count, kid)
	case api.ETick:
		e.Num = []int64{0, 1, -1, -2, 1000, -1000}[r.Intn(6)]
	}
	return e
}

func (r forge) typeExpr(depth int) api.TypeExpr {
	kid := func() api.TypeExpr { return r.typeExpr(depth - 1) }
	kind := 1 + r.Intn(9)
	if depth <= 1 {
		kind = 1 + r.Intn(4)
	}
	t := api.TypeExpr{Kind: kind}
	switch kind {
	case api.TVar:
		t.Name = r.name()
	case api.TData:
		t.Name, t.Args = r.upper(), several(r, 0, 3, kid)
	case api.TTuple:
		t.Args = several(r, 2, 3, kid)
	case api.TArray, api.TRef:
		t.Args = several(r, 1, 1, kid)
	case api.TFun:
		t.Args = several(r, 1, 4, kid)
	}
	return t
}

func (r forge) prog() api.Prog {
	con := func() api.ConExpr {
		return api.ConExpr{Name: r.upper(), Args: several(r, 0, 3, func() api.TypeExpr { return r.typeExpr(r.Intn(4)) })}
	}
	data := func() api.DataExpr {
		return api.DataExpr{Name: r.upper(), Vars: several(r, 0, 3, r.name), Cons: several(r, 1, 4, con)}
	}
	fun := func() api.FunExpr {
		return api.FunExpr{Name: r.name(), Params: several(r, 0, 4, r.name), Body: r.expr(1 + r.Intn(5))}
	}
	return api.Prog{Data: several(r, 0, 3, data), Funs: several(r, 0, 3, fun)}
}

// copyOf shares no memory with p, and leaves out the difference between nil and empty slices.
func copyOf[T any](p T) T {
	return deepCopy(reflect.ValueOf(p)).Interface().(T)
}

func deepCopy(v reflect.Value) reflect.Value {
	c := reflect.New(v.Type()).Elem()
	switch v.Kind() {
	case reflect.Struct:
		for i := range v.NumField() {
			c.Field(i).Set(deepCopy(v.Field(i)))
		}
	case reflect.Slice:
		for i := range v.Len() {
			c.Set(reflect.Append(c, deepCopy(v.Index(i))))
		}
	default:
		c.Set(v)
	}
	return c
}

// same compares trees by their copies.
func same[T any](a, b T) bool {
	return reflect.DeepEqual(copyOf(a), copyOf(b))
}

// fields returns all the numbers, strings and slices within a tree.
func fields(v reflect.Value) []reflect.Value {
	var list []reflect.Value
	switch v.Kind() {
	case reflect.Struct:
		for i := range v.NumField() {
			list = append(list, fields(v.Field(i))...)
		}
	case reflect.Slice:
		list = append(list, v)
		for i := range v.Len() {
			list = append(list, fields(v.Index(i))...)
		}
	default:
		list = append(list, v)
	}
	return list
}

// change replaces one field within a tree at random.
func (r forge) change(p *api.Prog) {
	list := fields(reflect.ValueOf(p).Elem())
	r.changeField(list[r.Intn(len(list))])
}

func (r forge) changeField(v reflect.Value) {
	switch v.Kind() {
	case reflect.String:
		v.SetString(r.pick("", "x", "C", "_", "let", "fn", "fun", "xs", "X1", "x y", " x", "x ", "x#", "#\nx", "1", "1x", "-", "()", "x.", "\u00e9", "x\u00e9",
			strings.Repeat("n", 24), strings.Repeat("n", 25), strings.Repeat("N", 24), strings.Repeat("N", 25), strings.Repeat(" ", 20000)))
	case reflect.Int, reflect.Int64:
		values := []int64{-1 << 63, -1000001, -1000000, -1001, -1000, -1, 0, 1, 2, 3, 4, 5, 6, 7, 8, 9, 10, 16, 17, 18, 999, 1000, 1001, 1000000, 1000001, 1<<63 - 1}
		v.SetInt(values[r.Intn(len(values))])
	case reflect.Slice:
		switch length := v.Len(); {
		case length > 0 && r.Intn(3) == 0:
			v.SetLen(length - 1)
		case length > 0 && r.Intn(3) == 0:
			v.Set(reflect.AppendSlice(v, deepCopy(v)))
		case length > 0 && r.Intn(2) == 0:
			v.Set(reflect.Append(v, deepCopy(v.Index(0))))
		default:
			v.Set(reflect.Append(v, reflect.Zero(v.Type().Elem())))
		}
	}
}
