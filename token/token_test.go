package token_test

import (
	"math/rand"
	"slices"
	"strconv"
	"strings"
	"testing"

	"amortcost/api"
	"amortcost/token"
)

// Promise 3.1

func TestKindsAreNumbered(t *testing.T) {
	kinds := []int{token.Name, token.Upper, token.Number, token.Word, token.Sign, token.End}
	if !slices.Equal(kinds, []int{1, 2, 3, 4, 5, 6}) {
		t.Error(kinds)
	}
}

func TestExamples(t *testing.T) {
	expectTokens(t, "let x1 = f(2)in x1", "w:let@0 n:x1@4 s:=@7 n:f@9 s:(@10 d:2@11 s:)@12 w:in@13 n:x1@16 e:@18")
	expectTokens(t, "a<=b", "n:a@0 s:<=@1 n:b@3 e:@4")
	expectTokens(t, "a=<b", "n:a@0 s:=@1 s:<@2 n:b@3 e:@4")
	expectTokens(t, "a__b _", "n:a__b@0 s:_@5 e:@6")
	expectError(t, "x & y", 2, api.ErrSyntax)
	expectError(t, "1 01", 2, api.ErrSyntax)
	expectError(t, "1000001", 0, api.ErrLimit)
}

func TestSplitProgram(t *testing.T) {
	expectTokens(t, "data L(a) = N | C(a, L(a));\n",
		"w:data@0 u:L@5 s:(@6 n:a@7 s:)@8 s:=@10 u:N@12 s:|@14 u:C@16 s:(@17 n:a@18 s:,@19 u:L@21 s:(@22 n:a@23 s:)@24 s:)@25 s:;@26 e:@28")
	expectTokens(t, "fun f(x)=if x<=0 then()else f(x-1);# the end",
		"w:fun@0 n:f@4 s:(@5 n:x@6 s:)@7 s:=@8 w:if@9 n:x@12 s:<=@13 d:0@15 w:then@17 s:(@21 s:)@22 w:else@23 n:f@28 s:(@29 n:x@30 s:-@31 d:1@32 s:)@33 s:;@34 e:@44")
}

func TestNamesAndNumbers(t *testing.T) {
	for src, want := range map[string]string{
		"a":       "n:a@0 e:@1",
		"z":       "n:z@0 e:@1",
		"A":       "u:A@0 e:@1",
		"Z":       "u:Z@0 e:@1",
		"aA0_zZ9": "n:aA0_zZ9@0 e:@7",
		"Aa0_zZ9": "u:Aa0_zZ9@0 e:@7",
		"x_":      "n:x_@0 e:@2",
		"X_":      "u:X_@0 e:@2",
		"_x":      "s:_@0 n:x@1 e:@2",
		"_X":      "s:_@0 u:X@1 e:@2",
		"__":      "s:_@0 s:_@1 e:@2",
		"_1":      "s:_@0 d:1@1 e:@2",
		"1_":      "d:1@0 s:_@1 e:@2",
		"1x":      "d:1@0 n:x@1 e:@2",
		"1X":      "d:1@0 u:X@1 e:@2",
		"1let":    "d:1@0 w:let@1 e:@4",
		"0x10":    "d:0@0 n:x10@1 e:@4",
		"0":       "d:0@0 e:@1",
		"9":       "d:9@0 e:@1",
		"10":      "d:10@0 e:@2",
		"-7":      "s:-@0 d:7@1 e:@2",
	} {
		expectTokens(t, src, want)
	}
}

func TestSignsAreAsLongAsPossible(t *testing.T) {
	for src, want := range map[string]string{
		"->":   "s:->@0 e:@2",
		"-->":  "s:-@0 s:->@1 e:@3",
		"<=":   "s:<=@0 e:@2",
		"<==":  "s:<=@0 s:=@2 e:@3",
		"<===": "s:<=@0 s:==@2 e:@4",
		"<<=":  "s:<@0 s:<=@1 e:@3",
		"==":   "s:==@0 e:@2",
		"===":  "s:==@0 s:=@2 e:@3",
		"====": "s:==@0 s:==@2 e:@4",
		"=<=":  "s:=@0 s:<=@1 e:@3",
		"= =":  "s:=@0 s:=@2 e:@3",
		"< =":  "s:<@0 s:=@2 e:@3",
		"<-":   "s:<@0 s:-@1 e:@2",
		"()":   "s:(@0 s:)@1 e:@2",
		";;":   "s:;@0 s:;@1 e:@2",
		"||":   "s:|@0 s:|@1 e:@2",
	} {
		expectTokens(t, src, want)
	}
	expectError(t, "- >", 2, api.ErrSyntax)
	expectError(t, "->>", 2, api.ErrSyntax)
	expectError(t, ">=", 0, api.ErrSyntax)
	for _, sign := range signs {
		expectTokens(t, sign, "s:"+sign+"@0 e:@"+strconv.Itoa(len(sign)))
	}
}

func TestBlanksSeparate(t *testing.T) {
	for b := range 256 {
		src := "a" + string([]byte{byte(b)}) + "B"
		switch b {
		case 9, 10, 13, 32:
			expectTokens(t, src, "n:a@0 u:B@2 e:@3")
		case '#':
			expectTokens(t, src, "n:a@0 e:@3")
		default:
			if tokens, _, _ := token.Split(src); show(tokens) == "n:a@0 u:B@2 e:@3" {
				t.Errorf("%q is a blank", src)
			}
		}
	}
	expectTokens(t, "", "e:@0")
	expectTokens(t, " \t\r\n\n ", "e:@6")
	expectTokens(t, "\n\n a\r\n\tb  ", "n:a@3 n:b@7 e:@10")
}

func TestComments(t *testing.T) {
	for src, want := range map[string]string{
		"#":                     "e:@1",
		"#\n":                   "e:@2",
		"# x & 01":              "e:@8",
		"#a\nb":                 "n:b@3 e:@4",
		"#a\rb\nc":              "n:c@5 e:@6",
		"a#b\nc":                "n:a@0 n:c@4 e:@5",
		"a##b#\n#\nc#":          "n:a@0 n:c@8 e:@10",
		"le#\nt":                "n:le@0 n:t@4 e:@5",
		"1#\n2":                 "d:1@0 d:2@3 e:@4",
		"<#\n=":                 "s:<@0 s:=@3 e:@4",
		"#\x00\xff\u00e9\u2028": "e:@8",
		"#\n\n #\n a":           "n:a@7 e:@8",
		" # a\n  # b\n c # d":   "n:c@12 e:@17",
	} {
		expectTokens(t, src, want)
	}
	expectError(t, "#a\n&", 3, api.ErrSyntax)
	expectError(t, "&#a\n", 0, api.ErrSyntax)
	expectTokens(t, strings.Repeat("#", api.MaxText), "e:@16384")
}

func TestEveryTextOfTwoBytes(t *testing.T) {
	for first := range 256 {
		expectDefined(t, string([]byte{byte(first)}))
		for second := range 256 {
			expectDefined(t, string([]byte{byte(first), byte(second)}))
		}
	}
}

// TestEveryShortText covers every text of at most four bytes of an alphabet with the classes of bytes.
func TestEveryShortText(t *testing.T) {
	var extend func(src string)
	extend = func(src string) {
		expectDefined(t, src)
		if len(src) < 4 {
			for _, next := range []byte("fnA01_-<=>#\n ;&") {
				extend(src + string(next))
			}
		}
	}
	extend("")
}

// pieces are texts that are whole tokens, parts of them, separators, and errors.
func pieces() []string {
	return append(slices.Concat(keywords, signs, []string{
		"x", "x1", "aB_9", "Cons", "N", "L_", "0", "7", "10", "1000000", "999999", " ", "  ", "\n", "\t", "\r\n", "#", "# c\n", "#\n", ">",
		strings.Repeat("n", 24), strings.Repeat("U", 24), strings.Repeat("n", 25), strings.Repeat("U", 25), "1000001", "18446744073709551617", "00", "01", "&", "'", "\x00", "\x7f", "\u00e9", "\xff",
	}), "")
}

func TestTextsOfPieces(t *testing.T) {
	all := pieces()
	for _, a := range all {
		for _, b := range all {
			expectDefined(t, a+b)
			expectDefined(t, a+" "+b)
			expectDefined(t, a+"#\n"+b+"x")
		}
	}
	random := rand.New(rand.NewSource(3))
	for range 20000 {
		var src string
		for range random.Intn(12) {
			src += all[random.Intn(len(all))]
		}
		expectDefined(t, src)
	}
}

// Promise 3.2

func TestKeywords(t *testing.T) {
	if len(keywords) != 28 {
		t.Fatal(len(keywords))
	}
	for _, word := range keywords {
		if !token.Keyword(word) {
			t.Error(word)
		}
		end := len(word)
		expectTokens(t, word, "w:"+word+"@0 e:@"+strconv.Itoa(end))
		for _, longer := range []string{word + "s", word + "0", word + "_", word + "X", "x" + word} {
			expectTokens(t, longer, "n:"+longer+"@0 e:@"+strconv.Itoa(end+1))
		}
		upper := strings.ToUpper(word[:1]) + word[1:]
		expectTokens(t, upper, "u:"+upper+"@0 e:@"+strconv.Itoa(end))
		expectTokens(t, word+"("+word, "w:"+word+"@0 s:(@"+strconv.Itoa(end)+" w:"+word+"@"+strconv.Itoa(end+1)+" e:@"+strconv.Itoa(2*end+1))
	}
}

func TestOthersAreNoKeywords(t *testing.T) {
	for _, s := range slices.Concat(signs, []string{
		"", " ", "x", "N", "0", "let ", " let", "let\n", "let#", "letin", "let in", "Let", "LET", "lET", "fn(", "not", "and", "or", "of", "rec", "var", "type", "case", "return",
		"string", "none", "tuple", "apply", "handle", "div", "mod", "units", "arrays", "lets", "integer", "boolean", "\x00", "let\x00", "i\u0307f", strings.Repeat("let", 10000),
	}) {
		if token.Keyword(s) {
			t.Errorf("%q", s)
		}
	}
}

// TestNeighboursOfKeywords covers every string that differs from a keyword by one byte, which is replaced, removed or added.
func TestNeighboursOfKeywords(t *testing.T) {
	for _, word := range keywords {
		for i := range len(word) + 1 {
			neighbours := []string{word[:i]}
			for b := range 256 {
				neighbours = append(neighbours, word[:i]+string([]byte{byte(b)})+word[i:])
				if i < len(word) {
					neighbours = append(neighbours, word[:i]+string([]byte{byte(b)})+word[i+1:], word[:i]+word[i+1:])
				}
			}
			for _, s := range neighbours {
				if got, want := token.Keyword(s), slices.Contains(keywords, s); got != want {
					t.Errorf("%q: %v", s, got)
				}
			}
		}
	}
}

func TestShortKeywords(t *testing.T) {
	const letters = "abcdefghijklmnopqrstuvwxyz"
	var found []string
	for _, a := range letters {
		for _, b := range letters {
			for _, s := range []string{string(a), string(a) + string(b)} {
				if token.Keyword(s) {
					found = append(found, s)
				}
			}
			for _, c := range letters {
				if s := string(a) + string(b) + string(c); token.Keyword(s) {
					found = append(found, s)
				}
			}
		}
	}
	want := strings.Fields("end fn fun get if in int len let new ref set try")
	slices.Sort(found)
	if !slices.Equal(found, want) {
		t.Error(found)
	}
}

// Promise 3.3

func TestNoTokenBegins(t *testing.T) {
	begins := "()=|+-*/%<;_,# \t\r\n"
	for b := range 256 {
		if c := byte(b); strings.IndexByte(begins, c) >= 0 || c >= '0' && c <= '9' || c >= 'a' && c <= 'z' || c >= 'A' && c <= 'Z' {
			if _, pos, refusal := token.Split(string([]byte{c})); pos != 0 || refusal != api.OK {
				t.Errorf("%q: %d, %d", c, pos, refusal)
			}
			continue
		}
		text := string([]byte{byte(b)})
		expectError(t, text, 0, api.ErrSyntax)
		expectError(t, "x"+text, 1, api.ErrSyntax)
		expectError(t, "x1 = "+text+" "+text, 5, api.ErrSyntax)
		expectError(t, "x # "+text+"\n"+text, 6, api.ErrSyntax)
	}
	for _, letter := range []string{"\u00e9", "\u00c9", "\u0661", "\u00a0", "\u0085", "\u2003", "\ufeff", "\uff41"} {
		expectError(t, letter, 0, api.ErrSyntax)
		expectError(t, "a"+letter, 1, api.ErrSyntax)
	}
}

func TestTextLimit(t *testing.T) {
	full := strings.Repeat("a ", api.MaxText/2)
	tokens, pos, refusal := token.Split(full)
	if len(tokens) != api.MaxText/2+1 || pos != 0 || refusal != api.OK || tokens[api.MaxText/2] != (token.Token{Kind: token.End, Pos: 16384}) {
		t.Error(len(tokens), pos, refusal)
	}
	blanks := strings.Repeat(" ", api.MaxText)
	expectTokens(t, blanks, "e:@16384")
	for _, c := range []string{full + " ", blanks + "\n", "&" + blanks, "01" + blanks, strings.Repeat("1", api.MaxText+1), strings.Repeat("x", api.MaxText+1), "#" + blanks, strings.Repeat("\xff", 1<<20)} {
		expectError(t, c, 0, api.ErrLimit)
	}
	expectError(t, blanks[1:]+"&", api.MaxText-1, api.ErrSyntax)
	expectError(t, "x"+strings.Repeat("1", api.MaxText-1), 0, api.ErrLimit)
	expectError(t, strings.Repeat("(", api.MaxText-2)+"01", api.MaxText-2, api.ErrSyntax)
}

func TestNameLimit(t *testing.T) {
	for _, kind := range []string{"n:", "u:"} {
		first := map[string]string{"n:": "z", "u:": "Z"}[kind]
		for _, rest := range []string{"a", "Z", "0", "_"} {
			longest := first + strings.Repeat(rest, api.MaxName-1)
			expectTokens(t, longest, kind+longest+"@0 e:@24")
			expectTokens(t, " "+longest+"("+longest, kind+longest+"@1 s:(@25 "+kind+longest+"@26 e:@50")
			expectError(t, longest+rest, 0, api.ErrLimit)
			expectError(t, longest+" "+longest+rest+"+", 25, api.ErrLimit)
			expectError(t, longest+strings.Repeat(rest, 5000), 0, api.ErrLimit)
		}
	}
	expectError(t, "write"+strings.Repeat("x", 20), 0, api.ErrLimit)
	expectTokens(t, strings.Repeat("_", 3)+"x", "s:_@0 s:_@1 s:_@2 n:x@3 e:@4")
}

func TestNumberLimit(t *testing.T) {
	for _, number := range []string{"0", "1", "9", "10", "99", "100", "999999", "1000000"} {
		end := strconv.Itoa(len(number))
		expectTokens(t, number, "d:"+number+"@0 e:@"+end)
		expectError(t, number+" 0"+number, len(number)+1, api.ErrSyntax)
	}
	for _, number := range []string{
		"1000001", "1000010", "1999999", "2000000", "9999999", "10000000", "2147483648", "4294967296", "4294967297", "9223372036854775807", "9223372036854775808",
		"18446744073709551616", "18446744073709551617", "340282366920938463463374607431768211457", strings.Repeat("9", 10000), "1" + strings.Repeat("0", 16000),
	} {
		expectError(t, number, 0, api.ErrLimit)
		expectError(t, "-"+number, 1, api.ErrLimit)
		expectError(t, "0"+number, 0, api.ErrSyntax)
	}
	for _, number := range []string{"00", "01", "09", "000", "0000000", "00000000001", "01000000", "01000001", strings.Repeat("0", 16000)} {
		expectError(t, number, 0, api.ErrSyntax)
		expectError(t, "x "+number+" y", 2, api.ErrSyntax)
	}
	expectTokens(t, "0 0", "d:0@0 d:0@2 e:@3")
	expectTokens(t, "x00 X01", "n:x00@0 u:X01@4 e:@7")
}

func TestFirstErrorIsReturned(t *testing.T) {
	faults := map[string]api.Errno{
		"&": api.ErrSyntax, ">": api.ErrSyntax, "\xff": api.ErrSyntax, "00": api.ErrSyntax, "01000001": api.ErrSyntax,
		"1000001": api.ErrLimit, strings.Repeat("x", 25): api.ErrLimit, strings.Repeat("X", 25): api.ErrLimit,
	}
	for first, want := range faults {
		for second := range faults {
			expectError(t, first+" "+second, 0, want)
			expectError(t, "f(1, x)\n"+first+"\n"+second, 8, want)
		}
	}
}

// Consequences

func TestTextsJoinedByBlanks(t *testing.T) {
	random := rand.New(rand.NewSource(33))
	all := pieces()
	for range 20000 {
		var src string
		for range random.Intn(10) {
			src += all[random.Intn(len(all))]
		}
		tokens, _, refusal := token.Split(src)
		if refusal != api.OK {
			continue
		}
		var texts []string
		for _, each := range tokens {
			texts = append(texts, each.Text)
		}
		again, _, refusal := token.Split(strings.Join(texts, " "))
		same := func(a, b token.Token) bool { return a.Kind == b.Kind && a.Text == b.Text }
		if refusal != api.OK || !slices.EqualFunc(tokens, again, same) {
			t.Errorf("%q: %v, then %v", src, tokens, again)
		}
	}
}

// Rule R4

func TestResultsAreIndependent(t *testing.T) {
	const src = "let x = f(1) in C(x, 2)"
	first, _, _ := token.Split(src)
	want := show(first)
	second, _, _ := token.Split(src)
	for i := range first {
		first[i] = token.Token{Kind: -1, Text: "changed", Pos: -1}
	}
	_ = append(first, token.Token{})
	third, _, _ := token.Split(src)
	if show(second) != want || show(third) != want {
		t.Error(show(second), show(third))
	}
}
