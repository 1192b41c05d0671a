package rational_test

import (
	"math"
	"math/big"
	"slices"
	"testing"

	"amortcost/api"
	"amortcost/rational"
)

// edgeInts contains the ends of int64 and the places where the number of limbs changes.
var edgeInts = []int64{
	0, 1, -1, 2, -4, 6, 12, 999999999, -999999999, 1000000000, -1000000000, 1000000001,
	999999999999999999, 1000000000000000000, math.MaxInt64, -math.MaxInt64, math.MinInt64, math.MinInt64 + 1, 1 << 62,
}

// Promise 1.1

func TestFromInt(t *testing.T) {
	for _, n := range edgeInts {
		expect(t, "FromInt", rational.FromInt(n), new(big.Rat).SetInt64(n))
	}
	if got := rational.FromInt(1000000000); !sameForm(got, api.Rat{Num: []uint32{0, 1}, Den: []uint32{1}}) {
		t.Error(got)
	}
	if got := rational.FromInt(math.MinInt64); !sameForm(got, api.Rat{Neg: true, Num: []uint32{854775808, 223372036, 9}, Den: []uint32{1}}) {
		t.Error(got)
	}
}

func TestSmall(t *testing.T) {
	for _, a := range edgeInts {
		for _, b := range edgeInts {
			want := new(big.Rat)
			if b != 0 {
				want.SetFrac(big.NewInt(a), big.NewInt(b))
			}
			expect(t, "Small", rational.Small(a, b), want)
		}
	}
	if got := rational.Small(6, -4); !sameForm(got, api.Rat{Neg: true, Num: []uint32{3}, Den: []uint32{2}}) {
		t.Error(got)
	}
}

func TestToInt(t *testing.T) {
	for _, n := range edgeInts {
		for _, a := range []api.Rat{rational.FromInt(n), otherForm(rational.FromInt(n))} {
			if got, ok := rational.ToInt(a); got != n || !ok {
				t.Error(n, got, ok)
			}
		}
	}
	for _, a := range manyForms() {
		want := denoted(a)
		fits := want.IsInt() && want.Num().IsInt64()
		got, ok := rational.ToInt(a)
		if ok != fits || (fits && got != want.Num().Int64()) || (!fits && got != 0) {
			t.Error(a, got, ok)
		}
	}
}

func TestToIntRefuses(t *testing.T) {
	for _, s := range []string{
		"1/2", "-1/2", "9223372036854775807/2", "9223372036854775808", "-9223372036854775809",
		"18446744073709551615", "18446744073709551616", "-18446744073709551616", "18446744073709551617",
		"1000000000000000000000000000", "-340282366920938463463374607431768211456",
	} {
		if got, ok := rational.ToInt(number(t, s)); got != 0 || ok {
			t.Error(s, got, ok)
		}
	}
}

// Promise 1.2

func TestCanonical(t *testing.T) {
	for _, a := range manyForms() {
		expect(t, "Canonical", rational.Canonical(a), denoted(a))
		expect(t, "Canonical of another form", rational.Canonical(otherForm(a)), denoted(a))
	}
}

func TestCanonicalTable(t *testing.T) {
	zero := api.Rat{Den: []uint32{1}}
	for _, c := range []struct{ form, want api.Rat }{
		{api.Rat{}, zero},
		{api.Rat{Neg: true, Den: []uint32{1}}, zero},
		{api.Rat{Num: []uint32{5}}, zero},
		{api.Rat{Neg: true, Num: []uint32{3}, Den: []uint32{0, 0}}, zero},
		{api.Rat{Num: []uint32{0, 0}, Den: []uint32{7}}, zero},
		{api.Rat{Num: []uint32{1000000000}, Den: []uint32{1}}, api.Rat{Num: []uint32{0, 1}, Den: []uint32{1}}},
		{api.Rat{Neg: true, Num: []uint32{4294967295, 0}, Den: []uint32{2}}, api.Rat{Neg: true, Num: []uint32{294967295, 4}, Den: []uint32{2}}},
		{api.Rat{Num: []uint32{6, 0}, Den: []uint32{4, 0, 0}}, api.Rat{Num: []uint32{3}, Den: []uint32{2}}},
		{api.Rat{Num: []uint32{0, 0, 5}, Den: []uint32{0, 0, 0, 10}}, api.Rat{Num: []uint32{1}, Den: []uint32{0, 2}}},
		{api.Rat{Num: []uint32{999999999, 999999999, 4294967295}, Den: []uint32{1}}, api.Rat{Num: []uint32{999999999, 999999999, 294967295, 4}, Den: []uint32{1}}},
	} {
		if got := rational.Canonical(c.form); !sameForm(got, c.want) {
			t.Error(c.form, got, c.want)
		}
	}
}

func TestCanonicalOfLongNumbers(t *testing.T) {
	fibonacci := []*big.Int{big.NewInt(1), big.NewInt(1)}
	for n := 2; n < 8000; n++ {
		fibonacci = append(fibonacci, new(big.Int).Add(fibonacci[n-1], fibonacci[n-2]))
	}
	common := new(big.Int).Exp(big.NewInt(977), big.NewInt(1500), nil)
	for _, n := range []int{100, 1000, 7999} {
		// Neighbours have no common divisor, and Euclid's algorithm takes as many steps as possible.
		num, den := new(big.Int).Mul(fibonacci[n], common), new(big.Int).Mul(fibonacci[n-1], common)
		want := new(big.Rat).SetFrac(fibonacci[n], fibonacci[n-1])
		expect(t, "long", rational.Canonical(api.Rat{Num: limbsOf(num), Den: limbsOf(den)}), want)
		expect(t, "long", rational.Canonical(api.Rat{Num: limbsOf(den), Den: limbsOf(num)}), want.Inv(want))
	}
}

func TestIntegral(t *testing.T) {
	for _, a := range manyForms() {
		if got := rational.Integral(a); got != denoted(a).IsInt() {
			t.Error(a, got)
		}
	}
	for s, want := range map[string]bool{"0": true, "4/2": true, "1/2": false, "-3": true, "-3/7": false, "2/4": false, "1000000000000000000000/8": true, "1000000000000000000001/8": false} {
		if got := rational.Integral(number(t, s)); got != want {
			t.Error(s, got)
		}
	}
}

func TestSign(t *testing.T) {
	for _, a := range manyForms() {
		if got := rational.Sign(a); got != denoted(a).Sign() {
			t.Error(a, got)
		}
	}
	for s, want := range map[string]int{"0": 0, "-0": 0, "-1/9": -1, "1/1000000000000": 1, "-1000000000000": -1} {
		if got := rational.Sign(number(t, s)); got != want {
			t.Error(s, got)
		}
	}
}

func TestCmp(t *testing.T) {
	forms := manyForms()
	for _, a := range forms {
		if got := rational.Cmp(a, otherForm(a)); got != 0 {
			t.Error(a, got)
		}
		for _, b := range forms {
			if got := rational.Cmp(a, b); got != denoted(a).Cmp(denoted(b)) {
				t.Error(a, b, got)
			}
		}
	}
}

// Promise 1.3

func TestNegAndAbs(t *testing.T) {
	for _, a := range manyForms() {
		expect(t, "Neg", rational.Neg(a), new(big.Rat).Neg(denoted(a)))
		expect(t, "Abs", rational.Abs(a), new(big.Rat).Abs(denoted(a)))
	}
}

func TestAddSubMul(t *testing.T) {
	forms := manyForms()
	for _, a := range forms {
		for _, b := range forms {
			x, y := denoted(a), denoted(b)
			expect(t, "Add", rational.Add(a, b), new(big.Rat).Add(x, y))
			expect(t, "Sub", rational.Sub(a, b), new(big.Rat).Sub(x, y))
			expect(t, "Mul", rational.Mul(a, b), new(big.Rat).Mul(x, y))
		}
	}
}

func TestCarriesAndBorrows(t *testing.T) {
	for _, c := range []struct {
		got  api.Rat
		want string
	}{
		{rational.Add(number(t, "999999999"), number(t, "1")), "1000000000"},
		{rational.Add(number(t, "999999999999999999999999999"), number(t, "1")), "1000000000000000000000000000"},
		{rational.Sub(number(t, "1000000000000000000000000000"), number(t, "1")), "999999999999999999999999999"},
		{rational.Sub(number(t, "1"), number(t, "1000000000000000000")), "-999999999999999999"},
		{rational.Sub(number(t, "1/3"), number(t, "1/3")), "0"},
		{rational.Mul(number(t, "999999999999999999"), number(t, "-999999999999999999")), "-999999999999999998000000000000000001"},
		{rational.Add(number(t, "1/999999999"), number(t, "1/999999998")), "1999999997/999999997000000002"},
		{rational.Mul(number(t, "999999999/999999998"), number(t, "999999998/999999999")), "1"},
	} {
		if got := rational.Format(c.got); got != c.want {
			t.Error(got, c.want)
		}
	}
}

func TestSum(t *testing.T) {
	if got := rational.Sum(); !sameForm(got, api.Rat{Den: []uint32{1}}) {
		t.Error(got)
	}
	if got := rational.Sum([]api.Rat{}...); !sameForm(got, api.Rat{Den: []uint32{1}}) {
		t.Error(got)
	}
	forms := manyForms()
	for n := range len(forms) - 4 {
		sum := new(big.Rat)
		for _, a := range forms[n : n+4] {
			sum.Add(sum, denoted(a))
		}
		expect(t, "Sum", rational.Sum(forms[n:n+4]...), sum)
		expect(t, "Sum of one", rational.Sum(forms[n]), denoted(forms[n]))
	}
	var harmonic []api.Rat
	want := new(big.Rat)
	for n := range int64(200) {
		harmonic = append(harmonic, rational.Small(1, n+1))
		want.Add(want, big.NewRat(1, n+1))
	}
	expect(t, "harmonic sum", rational.Sum(harmonic...), want)
}

// Promise 1.4

func TestDiv(t *testing.T) {
	forms := manyForms()
	for _, a := range forms {
		for _, b := range forms {
			x, y := denoted(a), denoted(b)
			want, divides := new(big.Rat), y.Sign() != 0
			if divides {
				want.Quo(x, y)
			}
			got, ok := rational.Div(a, b)
			if ok != divides {
				t.Error(a, b, ok)
			}
			expect(t, "Div", got, want)
		}
	}
}

func TestDivByZero(t *testing.T) {
	for _, zero := range []api.Rat{{}, {Neg: true}, {Num: []uint32{0, 0}, Den: []uint32{3}}, {Num: []uint32{3}, Den: []uint32{0}}, rational.FromInt(0)} {
		for _, a := range []api.Rat{{}, rational.FromInt(1), rational.Small(-1, 2)} {
			if got, ok := rational.Div(a, zero); ok || !sameForm(got, api.Rat{Den: []uint32{1}}) {
				t.Error(a, zero, got, ok)
			}
		}
	}
}

func TestFloorAndCeil(t *testing.T) {
	for _, a := range manyForms() {
		x := denoted(a)
		// big.Int.Div rounds down, because the denominator is positive.
		floor := new(big.Int).Div(x.Num(), x.Denom())
		ceil := new(big.Int).Div(new(big.Int).Neg(x.Num()), x.Denom())
		expect(t, "Floor", rational.Floor(a), new(big.Rat).SetInt(floor))
		expect(t, "Ceil", rational.Ceil(a), new(big.Rat).SetInt(ceil.Neg(ceil)))
	}
	for s, want := range map[string][2]string{
		"-3/2": {"-2", "-1"}, "3/2": {"1", "2"}, "-1/3": {"-1", "0"}, "1/3": {"0", "1"}, "0": {"0", "0"}, "-4": {"-4", "-4"}, "4/2": {"2", "2"},
		"1999999999/2": {"999999999", "1000000000"}, "-1999999999/2": {"-1000000000", "-999999999"},
	} {
		a := number(t, s)
		if floor, ceil := rational.Format(rational.Floor(a)), rational.Format(rational.Ceil(a)); floor != want[0] || ceil != want[1] {
			t.Error(s, floor, ceil)
		}
	}
}

// Consequences and rules

func TestFieldLaws(t *testing.T) {
	forms := edgeForms()
	same := func(law string, a, b api.Rat) {
		if !sameForm(a, b) {
			t.Error(law, a, b)
		}
	}
	for _, a := range forms {
		same("a - a", rational.Sub(a, a), rational.FromInt(0))
		if inverse, ok := rational.Div(rational.FromInt(1), a); ok {
			same("a / a", rational.Mul(a, inverse), rational.FromInt(1))
		}
		for _, b := range forms {
			same("a + b", rational.Add(a, b), rational.Add(b, a))
			same("a * b", rational.Mul(a, b), rational.Mul(b, a))
			if rational.Cmp(a, b) != rational.Sign(rational.Sub(a, b)) {
				t.Error("order", a, b)
			}
			for _, c := range forms {
				same("a * (b + c)", rational.Mul(a, rational.Add(b, c)), rational.Add(rational.Mul(a, b), rational.Mul(a, c)))
			}
		}
	}
}

// unaryFunctions and binaryFunctions contain all functions from numbers to numbers.
func unaryFunctions() []func(api.Rat) api.Rat {
	return []func(api.Rat) api.Rat{
		rational.Canonical, rational.Neg, rational.Abs, rational.Floor, rational.Ceil,
		func(a api.Rat) api.Rat { return rational.Sum(a) },
	}
}

func binaryFunctions() []func(a, b api.Rat) api.Rat {
	return []func(a, b api.Rat) api.Rat{
		rational.Add, rational.Sub, rational.Mul,
		func(a, b api.Rat) api.Rat { q, _ := rational.Div(a, b); return q },
		func(a, b api.Rat) api.Rat { return rational.Sum(a, b) },
	}
}

func TestResultsDoNotDependOnForms(t *testing.T) {
	forms := manyForms()
	for i, a := range forms {
		b := forms[(7*i+3)%len(forms)]
		for n, f := range unaryFunctions() {
			if x, y := f(a), f(otherForm(a)); !sameForm(x, y) {
				t.Error(n, a, x, y)
			}
		}
		for n, f := range binaryFunctions() {
			if x, y := f(a, b), f(otherForm(a), otherForm(b)); !sameForm(x, y) {
				t.Error(n, a, b, x, y)
			}
		}
		if x, y := rational.Format(a), rational.Format(otherForm(a)); x != y {
			t.Error(x, y)
		}
	}
}

func cloned(a api.Rat) api.Rat {
	return api.Rat{Neg: a.Neg, Num: slices.Clone(a.Num), Den: slices.Clone(a.Den)}
}

// overwrite also reaches what lies behind the end of a list.
func overwrite(list []uint32) {
	list = list[:cap(list)]
	for i := range list {
		list[i] = 77
	}
}

func TestMemoryIsNotShared(t *testing.T) {
	forms := manyForms()
	check := func(n int, compute func() api.Rat, arguments ...*api.Rat) {
		var before []api.Rat
		for _, a := range arguments {
			before = append(before, cloned(*a))
		}
		result, other := compute(), compute()
		want, den := cloned(result), slices.Clone(result.Den)
		overwrite(result.Num)
		if !slices.Equal(result.Den, den) {
			t.Error(n, "numerator and denominator share memory")
		}
		overwrite(result.Den)
		if !sameForm(other, want) || !sameForm(compute(), want) {
			t.Error(n, "results share memory")
		}
		for i, a := range arguments {
			if !sameForm(*a, before[i]) {
				t.Error(n, "an argument was changed or is shared")
			}
		}
	}
	for i := range forms {
		a, b := cloned(forms[i]), cloned(forms[(5*i+1)%len(forms)])
		for n, f := range unaryFunctions() {
			check(n, func() api.Rat { return f(a) }, &a)
		}
		for n, f := range binaryFunctions() {
			check(n, func() api.Rat { return f(a, b) }, &a, &b)
			check(n, func() api.Rat { return f(a, a) }, &a)
		}
	}
	check(0, func() api.Rat { return rational.FromInt(0) })
	check(1, func() api.Rat { return rational.FromInt(5) })
	check(2, func() api.Rat { return rational.Small(1, 0) })
	check(3, func() api.Rat { a, _ := rational.Parse("1/1"); return a })
	check(4, func() api.Rat { return rational.Sum() })
}

func TestQuestionsLeaveArgumentsAlone(t *testing.T) {
	forms := manyForms()
	for i := range forms {
		a, b := cloned(forms[i]), cloned(forms[(5*i+1)%len(forms)])
		rational.ToInt(a)
		rational.Integral(a)
		rational.Sign(a)
		rational.Cmp(a, b)
		rational.Format(a)
		if !sameForm(a, forms[i]) || !sameForm(b, forms[(5*i+1)%len(forms)]) {
			t.Error("an argument was changed", a, b)
		}
	}
}
