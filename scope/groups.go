package scope

import (
	"slices"

	"amortcost/api"
)

// namedIn returns the functions that the body of one of them names, ascending.
func namedIn(fun *api.FunExpr, funs []api.FunExpr) []int {
	var list []int
	for e, bound := range expressions(fun) {
		if f := functionNamed(e, bound, funs); f >= 0 {
			list = append(list, f)
		}
	}
	slices.Sort(list)
	return slices.Compact(list)
}

// components returns the strongly connected components of a graph, each ascending. It lists next the component with the least member of those that lead only to themselves and to listed ones.
func components(next [][]int) [][]int {
	var waiting []int
	reached := make([][]bool, len(next))
	for v := range next {
		waiting = append(waiting, v)
		reached[v] = reachable(next, v)
	}
	ready := func(v int) bool {
		return !slices.ContainsFunc(waiting, func(w int) bool { return reached[v][w] && !reached[w][v] })
	}
	var groups [][]int
	for len(waiting) > 0 {
		// Components do not lead to each other in a circle, so one of them is ready. Of what waits, it leads to itself only.
		least := waiting[slices.IndexFunc(waiting, ready)]
		var group, others []int
		for _, v := range waiting {
			if reached[least][v] {
				group = append(group, v)
			} else {
				others = append(others, v)
			}
		}
		groups, waiting = append(groups, group), others
	}
	return groups
}

// reachable reports for each vertex of a graph whether a path leads there from start. One without edges leads to start.
func reachable(next [][]int, start int) []bool {
	reached := make([]bool, len(next))
	var follow func(v int)
	follow = func(v int) {
		if reached[v] {
			return
		}
		reached[v] = true
		for _, w := range next[v] {
			follow(w)
		}
	}
	follow(start)
	return reached
}
