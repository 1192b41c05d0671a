package special_test

import (
	"math/rand"
	"strings"

	"amortcost/api"
	"amortcost/syntax"
	"amortcost/typing"
)

// forge makes programs, types and instances at random.
type forge struct {
	*rand.Rand
}

func newForge(seed int64) forge {
	return forge{rand.New(rand.NewSource(seed))}
}

func pick[T any](r forge, list ...T) T {
	return list[r.Intn(len(list))]
}

// draft is a function whose body is a row of lets.
type draft struct {
	name, params string
	bound        []string
	lets         string
}

func (d draft) text() string {
	return "fun " + d.name + "(" + d.params + ") = " + d.lets + d.bound[len(d.bound)-1] + ";\n"
}

const boundNames = "xyzabcfghk"

// program makes a program that can be typed, by adding lets as long as it can be. Bound names hide functions.
func (r forge) program() api.Prog {
	var drafts []draft
	for _, name := range []string{"f", "g", "h", "k", "m"}[:2+r.Intn(4)] {
		d := draft{name: name, lets: pick(r, "let c = 1 in ", "let c = ((), true) in ", "let c = N in ", "let c = raise(1) in "), bound: []string{"c"}}
		if count := r.Intn(3); count > 0 {
			d.params = strings.Join([]string{"x", "y"}[:count], ", ")
			d.bound = append([]string{"x", "y"}[:count], "c")
		}
		drafts = append(drafts, d)
	}
	var p api.Prog
	for range 4 + r.Intn(16) {
		at := r.Intn(len(drafts))
		before := drafts[at]
		name := string(pick(r, []byte(boundNames)...))
		drafts[at].lets += "let " + name + " = " + r.expr(drafts, before.bound) + " in "
		drafts[at].bound = append(before.bound[:len(before.bound):len(before.bound)], name)
		text := lists + "data T = K(int) | D; "
		for _, d := range drafts {
			text += d.text()
		}
		made, _, refusal := syntax.Parse(text)
		if _, diag := typing.Infer(made); refusal == api.OK && diag.Code == api.OK {
			p = made
		} else {
			drafts[at] = before
		}
	}
	return p
}

// expr makes an expression of bound names and functions.
func (r forge) expr(drafts []draft, bound []string) string {
	name := func() string { return pick(r, bound...) }
	call := func() string {
		d := pick(r, drafts...)
		var args []string
		for range strings.Count(d.params, ",") + min(1, len(d.params)) {
			args = append(args, pick(r, name(), name(), name(), "1", "true", "("+name()+", "+name()+")"))
		}
		return d.name + "(" + strings.Join(args, ", ") + ")"
	}
	switch r.Intn(14) {
	case 0:
		return "(" + name() + ", " + name() + ")"
	case 1:
		return "(" + call() + ", " + call() + ")"
	case 2:
		return pick(r, drafts...).name
	case 3:
		return "fn(" + pick(r, drafts...).name + ") -> " + call()
	case 4:
		return "match C(" + name() + ", N) with C(" + pick(r, "g", "x") + ", _) -> " + call() + " | N -> " + call() + " end"
	case 5:
		return "let (" + pick(r, "_, h", "f, y") + ") = (" + name() + ", " + call() + ") in " + call()
	case 6:
		return "try " + call() + " catch " + pick(r, "f", "h", "e") + " -> " + call() + " end"
	case 7:
		return "if true then " + call() + " else " + pick(r, name(), call())
	case 8:
		return pick(r, "ref(", "new(2, ") + call() + ")"
	case 9:
		return "C(" + call() + ", N)"
	}
	return call()
}

// typ makes a type that is valid and ground for the most part, over some data types. It has as many levels as there are given, or fewer.
func (r forge) typ(data, levels int) api.Type {
	if r.Intn(60) == 0 {
		return pick(r, made(api.TVar, 0), made(api.TInt, 1), plain(api.TRef), plain(api.TTuple, integer), made(api.TData, data), api.Type{})
	}
	if levels == 0 {
		return pick(r, integer, truth, unit)
	}
	inner := func() api.Type { return r.typ(data, r.Intn(levels)) }
	switch r.Intn(6) {
	case 0:
		return plain(api.TTuple, inner(), r.typ(data, levels-1))
	case 1:
		return plain(api.TFun, inner(), inner())
	case 2:
		return plain(api.TArray, inner())
	case 3:
		if data == 0 {
			return plain(api.TFun, inner())
		}
		return made(api.TData, 0, inner())
	case 4:
		return plain(api.TTuple, inner(), inner(), inner())
	}
	return plain(api.TRef, r.typ(data, levels-1))
}

// instance makes one of a few instances, whose types need not be valid.
func (r forge) instance() api.Instance {
	x := api.Instance{Fun: r.Intn(2)}
	for range r.Intn(3) {
		x.Args = append(x.Args, made(1+r.Intn(2), r.Intn(2)))
		if r.Intn(3) == 0 {
			x.Args[len(x.Args)-1].Args = append([]api.Type{}, []api.Type{integer, truth}[:r.Intn(3)]...)
		}
	}
	return x
}
