package rational_test

import (
	"math/big"
	"strings"
	"testing"

	"amortcost/api"
	"amortcost/rational"
)

// Promise 1.5

func TestParse(t *testing.T) {
	long, zeros := strings.Repeat("9", 200), strings.Repeat("0", 199)
	for s, want := range map[string]string{
		"0": "0", "-0": "0", "00": "0", "-0/5": "0", "0/0009": "0", "7": "7", "-12": "-12", "007/14": "1/2", "-4/2": "-2", "6/4": "3/2",
		"123456789": "123456789", "1000000000": "1000000000", "1000000000/1000000000": "1",
		"12345678901234567890/10": "1234567890123456789", "-1/1000000000000000000000": "-1/1000000000000000000000",
		long: long, "-" + long: "-" + long, "1/" + long: "1/" + long, "-" + long + "/" + long: "-1",
		zeros + "5": "5", zeros + "5/" + zeros + "7": "5/7", zeros + "0": "0",
	} {
		a, ok := rational.Parse(s)
		if got := rational.Format(a); got != want || !ok {
			t.Error(s, got, ok)
		}
		value, _ := new(big.Rat).SetString(want)
		expect(t, s, a, value)
	}
}

func TestParseRefuses(t *testing.T) {
	long := strings.Repeat("1", 201)
	for _, s := range []string{
		"", "-", "+1", "--1", "-+1", "1-", "1/0", "-1/0", "0/0", "1/00", "1/" + strings.Repeat("0", 200), "1/", "/2", "/", "-/2", "1/-2", "1/+2", "1//2", "1/2/3",
		" 1", "1 ", "1 /2", "1/ 2", "1\n", "\x001", "1.5", "1e3", "0x10", "1_000", "x", "1a", "a1", ":1", "1:", "1/2x", "\u0661", "\uff11", "\xff",
		long, "-" + long, "1/" + long, long + "/1", strings.Repeat("0", 201), "1/" + strings.Repeat("0", 200) + "1",
	} {
		if a, ok := rational.Parse(s); ok || a.Neg || a.Num != nil || a.Den != nil {
			t.Errorf("%q: %v %v", s, a, ok)
		}
	}
}

// TestParseEveryByte also covers the neighbours of the digits.
func TestParseEveryByte(t *testing.T) {
	for b := range 256 {
		text := string([]byte{'1', byte(b), '2'})
		_, ok := rational.Parse(text)
		if want := b == '/' || b >= '0' && b <= '9'; ok != want {
			t.Errorf("%q: %v", text, ok)
		}
	}
}

func TestFormat(t *testing.T) {
	for _, a := range manyForms() {
		if got, want := rational.Format(a), denoted(a).RatString(); got != want {
			t.Error(a, got, want)
		}
	}
	for _, c := range []struct {
		form api.Rat
		want string
	}{
		{api.Rat{}, "0"},
		{api.Rat{Neg: true, Num: []uint32{0}, Den: []uint32{5}}, "0"},
		{api.Rat{Neg: true, Num: []uint32{3}, Den: []uint32{0}}, "0"},
		{api.Rat{Neg: true, Num: []uint32{6}, Den: []uint32{4}}, "-3/2"},
		{api.Rat{Num: []uint32{5, 0, 1}, Den: []uint32{1}}, "1000000000000000005"},
		{api.Rat{Num: []uint32{1}, Den: []uint32{7, 20}}, "1/20000000007"},
		{api.Rat{Num: []uint32{4294967295}, Den: []uint32{1, 0}}, "4294967295"},
		{api.Rat{Num: []uint32{0, 8}, Den: []uint32{0, 4}}, "2"},
	} {
		if got := rational.Format(c.form); got != c.want {
			t.Error(c.form, got, c.want)
		}
	}
}

func TestFormatOfLongNumbers(t *testing.T) {
	power := new(big.Int).Exp(big.NewInt(7), big.NewInt(1000), nil)
	if got := rational.Format(api.Rat{Neg: true, Num: limbsOf(power), Den: []uint32{2}}); got != "-"+power.String()+"/2" {
		t.Error(got)
	}
}

func TestParseReadsWhatFormatWrites(t *testing.T) {
	for _, a := range manyForms() {
		got, ok := rational.Parse(rational.Format(a))
		if !ok || !sameForm(got, rational.Canonical(a)) {
			t.Error(a, got, ok)
		}
	}
}
