package scope_test

import (
	"slices"
	"testing"

	"amortcost/api"
	"amortcost/scope"
	"amortcost/syntax"
)

func parse(t *testing.T, src string) api.Prog {
	t.Helper()
	p, at, refusal := syntax.Parse(src)
	if refusal != api.OK {
		t.Fatalf("%q: %d at %d", src, refusal, at)
	}
	return p
}

// expectDefined compares all results for a program with the definitions, and returns what is wrong with the program.
func expectDefined(t *testing.T, p api.Prog) []finding {
	t.Helper()
	describe := func() string {
		if text := syntax.Format(p); text != "" {
			return text
		}
		return "a tree that is not valid"
	}
	ofData, all := dataFindings(p), checkFindings(p)
	var wantData []api.Data
	if len(ofData) == 0 {
		wantData = definedData(p)
	}
	if data, diag := scope.Data(p); diag != firstOf(ofData) || !same(data, wantData) {
		t.Errorf("%s: Data: %v, %v, want %v, %v", describe(), data, diag, wantData, firstOf(ofData))
	}
	if diag := scope.Check(p); diag != firstOf(all) {
		t.Errorf("%s: Check: %v, want %v", describe(), diag, firstOf(all))
	}
	var wantCalls, wantGroups [][]int
	if len(all) == 0 {
		wantCalls = definedCalls(p)
		wantGroups = definedGroups(wantCalls)
	}
	if calls := scope.Calls(p); !same(calls, wantCalls) {
		t.Errorf("%s: Calls: %v, want %v", describe(), calls, wantCalls)
	}
	if groups := scope.Groups(p); !same(groups, wantGroups) {
		t.Errorf("%s: Groups: %v, want %v", describe(), groups, wantGroups)
	}
	return all
}

// Promises 5.1 to 5.3, at random

func TestRandomPrograms(t *testing.T) {
	r := newForge(51)
	for range 1500 {
		if list := expectDefined(t, r.program()); len(list) > 0 {
			t.Errorf("the forge made a program with an error: %v", list)
		}
	}
}

func TestRandomlyChangedPrograms(t *testing.T) {
	r := newForge(52)
	seen := map[string]int{}
	several := 0
	for range 12000 {
		p := r.program()
		for range 1 + r.Intn(4) {
			r.change(&p)
		}
		list := expectDefined(t, p)
		if len(list) == 0 {
			seen["no error"]++
			continue
		}
		seen[list[0].about+" "+string(rune('0'+list[0].diag.Code))]++
		if slices.ContainsFunc(list, func(f finding) bool { return f.diag != list[0].diag }) {
			several++
		}
	}
	for _, about := range []string{
		"no error", "tree 1", "data type 4", "type parameter 4", "constructor 4", "type variable 3", "data type 3", "data type 5", "data type 7",
		"function 4", "parameter 4", "variable 3", "construction 3", "construction 5", "components 4", "fn 4", "alternative 3", "alternative 5", "alternative 4", "match 7", "application 5",
	} {
		if seen[about] < 10 {
			t.Errorf("%s: %d times", about, seen[about])
		}
	}
	if several < 1000 {
		t.Errorf("%d programs with several errors", several)
	}
}
