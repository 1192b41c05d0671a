package token

import "amortcost/api"

// skipGap returns the first offset from pos on that lies behind all blanks and comments there.
func skipGap(src string, pos int) int {
	inComment := false
	for ; pos < len(src); pos++ {
		switch src[pos] {
		case '\n':
			inComment = false
		case '#':
			inComment = true
		case '\t', '\r', ' ':
		default:
			if !inComment {
				return pos
			}
		}
	}
	return pos
}

// leadingWord returns the kind and the text of the token at the beginning of s, which is not empty, and the kind 0 if this token is a sign or none.
func leadingWord(s string) (int, string) {
	switch first := s[0]; {
	case isDigit(first):
		return Number, prefixOf(s, isDigit)
	case isUpper(first):
		return Upper, prefixOf(s, isNameByte)
	case isLower(first):
		name := prefixOf(s, isNameByte)
		if Keyword(name) {
			return Word, name
		}
		return Name, name
	}
	return 0, ""
}

// checkWord returns the error at a token that leadingWord found, or OK.
func checkWord(kind int, word string) api.Errno {
	switch {
	case kind == Number && len(word) > 1 && word[0] == '0':
		return api.ErrSyntax
	case kind == Number && exceedsLiterals(word), kind != Number && len(word) > api.MaxName:
		return api.ErrLimit
	}
	return api.OK
}

// exceedsLiterals stops at the first digit that decides, so that a number of any length does not overflow.
func exceedsLiterals(digits string) bool {
	value := 0
	for i := range len(digits) {
		value = 10*value + int(digits[i]-'0')
		if value > api.MaxLiteral {
			return true
		}
	}
	return false
}

// prefixOf returns the longest prefix of s in which every byte belongs to a class.
func prefixOf(s string, belongs func(byte) bool) string {
	for i := range len(s) {
		if !belongs(s[i]) {
			return s[:i]
		}
	}
	return s
}

func isNameByte(b byte) bool {
	return isLower(b) || isUpper(b) || isDigit(b) || b == '_'
}

func isLower(b byte) bool {
	return b >= 'a' && b <= 'z'
}

func isUpper(b byte) bool {
	return b >= 'A' && b <= 'Z'
}

func isDigit(b byte) bool {
	return b >= '0' && b <= '9'
}
