package syntax_test

import (
	"slices"
	"strings"

	"amortcost/token"
)

// This file reads the grammar as the chapter has it and follows texts with it, by Earley's method, which knows of every beginning of a program which tokens can follow.

// chapterGrammar is the grammar of the chapter but for one change: app tells a constructor without a parenthesis behind it from the other prims, because a parenthesis directly after an Upper belongs to the constructor.
const chapterGrammar = `
program = { data | fun }
data    = "data" Upper [ "(" name { "," name } ")" ] "=" ctor { "|" ctor } ";"
ctor    = Upper [ "(" type { "," type } ")" ]
type    = "int" | "bool" | "unit" | name | Upper [ "(" type { "," type } ")" ]
        | "array" "(" type ")" | "ref" "(" type ")" | "(" type "," type { "," type } ")"
        | "fn" "(" [ type { "," type } ] ")" "->" type
fun     = "fun" name "(" [ name { "," name } ] ")" "=" expr ";"
expr    = "let" bind "=" expr "in" expr
        | "let" "(" bind "," bind { "," bind } ")" "=" expr "in" expr
        | "if" expr "then" expr "else" expr
        | "match" expr "with" alt { "|" alt } "end"
        | "fn" "(" [ name { "," name } ] ")" "->" expr
        | "try" expr "catch" bind "->" expr "end"
        | comp
bind    = name | "_"
alt     = Upper [ "(" bind { "," bind } ")" ] "->" expr
comp    = sum [ ( "<" | "<=" | "==" ) sum ]
sum     = prod { ( "+" | "-" ) prod }
prod    = app { ( "*" | "/" | "%" ) app }
app     = Upper | prim { "(" [ expr { "," expr } ] ")" }
prim    = number | "-" number | "true" | "false" | "(" ")" | "(" expr ")" | "(" expr "," expr { "," expr } ")"
        | name | Upper "(" expr { "," expr } ")"
        | "tick" "(" [ "-" ] number ")" | "raise" "(" expr ")"
        | "new" "(" expr "," expr ")" | "get" "(" expr "," expr ")" | "set" "(" expr "," expr "," expr ")"
        | "len" "(" expr ")" | "ref" "(" expr ")" | "read" "(" expr ")" | "write" "(" expr "," expr ")"
`

// grammar has the alternatives of each rule. A symbol that has none is a token: a text in quotes, name, Upper or number.
type grammar struct {
	rules    map[string][][]string
	nullable map[string]bool
	helpers  int
}

func readGrammar(text string) *grammar {
	g := &grammar{rules: map[string][][]string{}, nullable: map[string]bool{}}
	words := strings.Fields(text)
	for i := 0; i < len(words); {
		end := i + 2
		for end < len(words) && (end+1 == len(words) || words[end+1] != "=") {
			end++
		}
		body := words[i+2 : end]
		g.rules[words[i]] = g.alternatives(&body, "")
		i = end
	}
	for changed := true; changed; {
		changed = false
		for name, alts := range g.rules {
			for _, alt := range alts {
				if !g.nullable[name] && !slices.ContainsFunc(alt, func(s string) bool { return !g.nullable[s] }) {
					g.nullable[name], changed = true, true
				}
			}
		}
	}
	return g
}

// alternatives reads up to a closing bracket, and gives brackets rules of their own.
func (g *grammar) alternatives(words *[]string, closing string) [][]string {
	alts := [][]string{nil}
	closers := map[string]string{"[": "]", "{": "}", "(": ")"}
	for len(*words) > 0 {
		word := (*words)[0]
		*words = (*words)[1:]
		switch word {
		case closing:
			return alts
		case "|":
			alts = append(alts, nil)
		case "[", "{", "(":
			g.helpers++
			name := word + strings.Repeat("'", g.helpers)
			inner := g.alternatives(words, closers[word])
			if word == "{" {
				for i := range inner {
					inner[i] = append(inner[i], name)
				}
			}
			if word != "(" {
				inner = append(inner, nil)
			}
			g.rules[name] = inner
			word = name
			fallthrough
		default:
			alts[len(alts)-1] = append(alts[len(alts)-1], word)
		}
	}
	return alts
}

type item struct {
	rule             string
	alt, dot, origin int
}

// follower has an Earley set for each beginning of a list of tokens.
type follower struct {
	g    *grammar
	sets [][]item
}

func follow(g *grammar) *follower {
	f := &follower{g: g}
	f.sets = [][]item{f.closure([]item{{"start", 0, 0, 0}})}
	return f
}

// symbol returns what stands behind the dot, and "" at the end.
func (f *follower) symbol(i item) string {
	alt := []string{"program"}
	if i.rule != "start" {
		alt = f.g.rules[i.rule][i.alt]
	}
	if i.dot == len(alt) {
		return ""
	}
	return alt[i.dot]
}

// closure completes the set that is about to be appended.
func (f *follower) closure(set []item) []item {
	seen := map[item]bool{}
	for _, i := range set {
		seen[i] = true
	}
	add := func(i item) {
		if !seen[i] {
			seen[i] = true
			set = append(set, i)
		}
	}
	at := len(f.sets)
	for n := 0; n < len(set); n++ {
		i := set[n]
		symbol := f.symbol(i)
		if symbol == "" {
			waiting := set
			if i.origin < at {
				waiting = f.sets[i.origin]
			}
			for _, w := range waiting {
				if f.symbol(w) == i.rule {
					add(item{w.rule, w.alt, w.dot + 1, w.origin})
				}
			}
			continue
		}
		for alt := range f.g.rules[symbol] {
			add(item{symbol, alt, 0, at})
		}
		if f.g.nullable[symbol] {
			add(item{i.rule, i.alt, i.dot + 1, i.origin})
		}
	}
	return set
}

// symbolOf returns the grammar's symbol for a token.
func symbolOf(t token.Token) string {
	switch t.Kind {
	case token.Name:
		return "name"
	case token.Upper:
		return "Upper"
	case token.Number:
		return "number"
	}
	return `"` + t.Text + `"`
}

// accepts passes a token if it can follow.
func (f *follower) accepts(symbol string) bool {
	var set []item
	for _, i := range f.sets[len(f.sets)-1] {
		if f.symbol(i) == symbol {
			set = append(set, item{i.rule, i.alt, i.dot + 1, i.origin})
		}
	}
	if set == nil {
		return false
	}
	f.sets = append(f.sets, f.closure(set))
	return true
}

// allowed returns the symbols of tokens that can follow.
func (f *follower) allowed() []string {
	var symbols []string
	for _, i := range f.sets[len(f.sets)-1] {
		if s := f.symbol(i); s != "" && f.g.rules[s] == nil && !slices.Contains(symbols, s) {
			symbols = append(symbols, s)
		}
	}
	slices.Sort(symbols)
	return symbols
}

// complete reports whether the tokens so far are a program.
func (f *follower) complete() bool {
	return slices.Contains(f.sets[len(f.sets)-1], item{"start", 0, 1, 0})
}

// firstMisfit returns the offset of the first token that cannot follow, or len(src) if more is expected, and whether there is such an error.
func firstMisfit(g *grammar, src string) (int, bool) {
	tokens, _, _ := token.Split(src)
	f := follow(g)
	for _, t := range tokens[:len(tokens)-1] {
		if !f.accepts(symbolOf(t)) {
			return t.Pos, true
		}
	}
	return len(src), !f.complete()
}
