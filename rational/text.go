package rational

import (
	"strconv"
	"strings"

	"amortcost/api"
)

const maxDigits = 200

// Parse reads an optional "-", digits, and optionally "/" and digits that do not denote 0.
func Parse(s string) (api.Rat, bool) {
	digits, negative := strings.CutPrefix(s, "-")
	top, bottom, divided := strings.Cut(digits, "/")
	num, ok := parseNatural(top)
	if !ok {
		return api.Rat{}, false
	}
	den := natural{1}
	if divided {
		den, ok = parseNatural(bottom)
		if !ok || len(den) == 0 {
			return api.Rat{}, false
		}
	}
	return fraction{negative, num, den}.canonical(), true
}

func parseNatural(digits string) (natural, bool) {
	if len(digits) == 0 || len(digits) > maxDigits {
		return nil, false
	}
	x := make(natural, (len(digits)+limbDigits-1)/limbDigits)
	for i := range len(digits) {
		digit := digits[i]
		if digit < '0' || digit > '9' {
			return nil, false
		}
		limb := &x[(len(digits)-1-i)/limbDigits]
		*limb = *limb*10 + uint32(digit-'0')
	}
	return trim(x), true
}

// Format returns the text of the canonical form.
func Format(a api.Rat) string {
	c := Canonical(a)
	var text []byte
	if c.Neg {
		text = append(text, '-')
	}
	text = appendDigits(text, c.Num)
	if len(c.Den) > 1 || c.Den[0] != 1 {
		text = append(text, '/')
		text = appendDigits(text, c.Den)
	}
	return string(text)
}

func appendDigits(text []byte, x natural) []byte {
	if len(x) == 0 {
		return append(text, '0')
	}
	text = strconv.AppendUint(text, uint64(x[len(x)-1]), 10)
	for i := len(x) - 2; i >= 0; i-- {
		for unit := uint32(base / 10); unit > 0; unit /= 10 {
			text = append(text, '0'+byte(x[i]/unit%10))
		}
	}
	return text
}
