package typing

import (
	"strconv"
	"strings"

	"amortcost/api"
)

// Valid reports whether a type is valid over a list of data types and a number of variables.
func Valid(data []api.Data, t api.Type, vars int) bool {
	count := 0
	for node := range preorder(&t) {
		count++
		if count > api.MaxType || !isRight(data, node, vars) {
			return false
		}
	}
	return true
}

// isRight looks at one node, and not at its arguments.
func isRight(data []api.Data, node *api.Type, vars int) bool {
	args := len(node.Args)
	switch node.Kind {
	case api.TVar:
		return node.Num >= 0 && node.Num < vars && args == 0
	case api.TData:
		return node.Num >= 0 && node.Num < len(data) && args == data[node.Num].Vars
	case api.TInt, api.TBool, api.TUnit:
		return node.Num == 0 && args == 0
	case api.TTuple:
		return node.Num == 0 && args >= 2 && args <= api.MaxArgs
	case api.TArray, api.TRef:
		return node.Num == 0 && args == 1
	case api.TFun:
		return node.Num == 0 && args >= 1 && args <= api.MaxArgs+1
	}
	return false
}

// mostVariables is the number of variables that Format has names for.
const mostVariables = mostVariable + 1

// Format returns the text of a type, or "" if the type is not valid.
func Format(data []api.Data, t api.Type) string {
	if !Valid(data, t, mostVariables) {
		return ""
	}
	var w writer
	w.write(data, &t)
	return w.String()
}

type writer struct {
	strings.Builder
}

func (w *writer) write(data []api.Data, t *api.Type) {
	switch t.Kind {
	case api.TInt:
		w.WriteString("int")
	case api.TBool:
		w.WriteString("bool")
	case api.TUnit:
		w.WriteString("unit")
	case api.TVar:
		w.WriteString("a" + strconv.Itoa(t.Num))
	case api.TData:
		w.WriteString(data[t.Num].Name)
		if len(t.Args) > 0 {
			w.list(data, t.Args)
		}
	case api.TTuple:
		w.list(data, t.Args)
	case api.TArray:
		w.WriteString("array")
		w.list(data, t.Args)
	case api.TRef:
		w.WriteString("ref")
		w.list(data, t.Args)
	case api.TFun:
		last := len(t.Args) - 1
		w.WriteString("fn")
		w.list(data, t.Args[:last])
		w.WriteString(" -> ")
		w.write(data, &t.Args[last])
	}
}

// list writes types in parentheses, which stand there also if there are no types.
func (w *writer) list(data []api.Data, types []api.Type) {
	w.WriteByte('(')
	for i := range types {
		if i > 0 {
			w.WriteString(", ")
		}
		w.write(data, &types[i])
	}
	w.WriteByte(')')
}
