package token_test

import (
	"fmt"
	"math/big"
	"regexp"
	"slices"
	"strings"
	"testing"

	"amortcost/api"
	"amortcost/token"
)

// This file contains a reading of the chapter that is independent of the package: what a whole token is, and that a token is the longest prefix that is one.

var keywords = strings.Fields("array bool catch data else end false fn fun get if in int len let match new raise read ref set then tick true try unit with write")

var signs = []string{"(", ")", ",", "=", "|", "->", "+", "-", "*", "/", "%", "<", "<=", "==", ";", "_"}

var (
	nameForm   = regexp.MustCompile(`^[a-z][a-zA-Z0-9_]*$`)
	upperForm  = regexp.MustCompile(`^[A-Z][a-zA-Z0-9_]*$`)
	numberForm = regexp.MustCompile(`^[0-9]+$`)
	gapForm    = regexp.MustCompile(`^([\t\n\r ]|(?s-m:#[^\n]*(\n|$)))*`)
)

// kindOf returns the kind of a text that is a whole token, and otherwise 0.
func kindOf(text string) int {
	switch {
	case slices.Contains(keywords, text):
		return token.Word
	case nameForm.MatchString(text):
		return token.Name
	case upperForm.MatchString(text):
		return token.Upper
	case numberForm.MatchString(text):
		return token.Number
	case slices.Contains(signs, text):
		return token.Sign
	}
	return 0
}

func longestToken(rest string) (kind int, text string) {
	for length := len(rest); length > 0; length-- {
		if kind := kindOf(rest[:length]); kind != 0 {
			return kind, rest[:length]
		}
	}
	return 0, ""
}

// errorOf returns the first error that applies to a token.
func errorOf(kind int, text string) api.Errno {
	switch kind {
	case token.Number:
		if strings.HasPrefix(text, "0") && text != "0" {
			return api.ErrSyntax
		}
		if value, _ := new(big.Int).SetString(text, 10); value.Cmp(big.NewInt(1000000)) > 0 {
			return api.ErrLimit
		}
	case token.Name, token.Upper:
		if len(text) > 24 {
			return api.ErrLimit
		}
	}
	return api.OK
}

func definedSplit(src string) ([]token.Token, int, api.Errno) {
	if len(src) > 16384 {
		return nil, 0, api.ErrLimit
	}
	var tokens []token.Token
	for pos := len(gapForm.FindString(src)); pos < len(src); pos += len(gapForm.FindString(src[pos:])) {
		kind, text := longestToken(src[pos:])
		if kind == 0 {
			return nil, pos, api.ErrSyntax
		}
		if refusal := errorOf(kind, text); refusal != api.OK {
			return nil, pos, refusal
		}
		tokens = append(tokens, token.Token{Kind: kind, Text: text, Pos: pos})
		pos += len(text)
	}
	return append(tokens, token.Token{Kind: token.End, Pos: len(src)}), 0, api.OK
}

// expectDefined compares Split with the definition.
func expectDefined(t *testing.T, src string) {
	t.Helper()
	tokens, pos, refusal := token.Split(src)
	wantTokens, wantPos, wantRefusal := definedSplit(src)
	if !slices.Equal(tokens, wantTokens) || pos != wantPos || refusal != wantRefusal {
		t.Errorf("%q: got %v, %d, %d, want %v, %d, %d", src, tokens, pos, refusal, wantTokens, wantPos, wantRefusal)
	}
}

// show writes a token as the first letter of its kind, its text and its position, for example "n:x1@4".
func show(tokens []token.Token) string {
	letters := map[int]string{token.Name: "n", token.Upper: "u", token.Number: "d", token.Word: "w", token.Sign: "s", token.End: "e"}
	var words []string
	for _, each := range tokens {
		words = append(words, fmt.Sprintf("%s:%s@%d", letters[each.Kind], each.Text, each.Pos))
	}
	return strings.Join(words, " ")
}

func expectTokens(t *testing.T, src, want string) {
	t.Helper()
	tokens, pos, refusal := token.Split(src)
	if got := show(tokens); got != want || pos != 0 || refusal != api.OK {
		t.Errorf("%q: got %s, %d, %d, want %s", src, got, pos, refusal, want)
	}
}

func expectError(t *testing.T, src string, wantPos int, want api.Errno) {
	t.Helper()
	tokens, pos, refusal := token.Split(src)
	if len(tokens) != 0 || pos != wantPos || refusal != want {
		t.Errorf("%.80q: got %d tokens, %d, %d, want none, %d, %d", src, len(tokens), pos, refusal, wantPos, want)
	}
}
