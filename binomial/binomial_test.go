package binomial_test

import (
	"math"
	"math/big"
	"slices"
	"strconv"
	"strings"
	"testing"

	"amortcost/api"
	"amortcost/binomial"
	"amortcost/rational"
)

var zero = api.Rat{Den: []uint32{1}}

// Promise 2.1

func TestChoose(t *testing.T) {
	for _, n := range []int64{math.MinInt64, math.MinInt64 + 1, -65, -3, -1, 0, 1, 2, 5, 31, 32, 33, 63, 64, 65, 66, 128, 1000000007, 1 << 40, math.MaxInt64 - 64, math.MaxInt64 - 1, math.MaxInt64} {
		for k := range 65 {
			got, ok := binomial.Choose(n, k)
			expectNumber(t, "Choose "+strconv.FormatInt(n, 10)+" "+strconv.Itoa(k), got, ok, definedChoose(max(0, n), k))
		}
	}
}

func TestChooseTable(t *testing.T) {
	for _, c := range []struct {
		n    int64
		k    int
		want string
	}{
		{-3, 0, "1"}, {-3, 1, "0"}, {-3, 2, "0"}, {0, 0, "1"}, {0, 1, "0"}, {4, 2, "6"}, {4, 4, "1"}, {4, 5, "0"}, {63, 64, "0"}, {64, 64, "1"}, {65, 64, "65"},
		{64, 32, "1832624140942590534"}, {68, 34, "28453041475240576740"}, {128, 64, "23951146041928082866135587776380551750"},
		{math.MaxInt64, 1, "9223372036854775807"}, {math.MaxInt64, 2, "42535295865117307919086767873688862721"},
	} {
		if got, ok := binomial.Choose(c.n, c.k); !ok || rational.Format(got) != c.want {
			t.Error(c, rational.Format(got), ok)
		}
	}
}

func TestChooseRefuses(t *testing.T) {
	for _, k := range []int{-1, -2, -64, 65, 66, 1000, math.MinInt, math.MaxInt} {
		for _, n := range []int64{math.MinInt64, -1, 0, 1, 64, 65, 100, math.MaxInt64} {
			if got, ok := binomial.Choose(n, k); ok || !sameForm(got, zero) {
				t.Error(n, k, got, ok)
			}
		}
	}
}

func TestCanonical(t *testing.T) {
	for _, p := range append(manyLists(), tooLong()...) {
		got := binomial.Canonical(p)
		if !isCanonical(got) || len(got) > len(p) {
			t.Error(p, got)
			continue
		}
		for k := range p {
			switch {
			case k < len(got) && denoted(p[k]).Cmp(denoted(got[k])) != 0, k >= len(got) && denoted(p[k]).Sign() != 0:
				t.Error(p, got, k)
			}
		}
	}
}

func TestCanonicalTable(t *testing.T) {
	for given, want := range map[string]string{"": "", "0": "", "0 0 0": "", "1 0": "1", "0 1 0 0": "0 1", "0 0 4/2": "0 0 2", "-6/4 0 0 1": "-3/2 0 0 1"} {
		expectList(t, "Canonical "+given, binomial.Canonical(list(given)), true, want)
	}
	if got := binomial.Canonical(zeroForms()); len(got) != 0 {
		t.Error(got)
	}
	inner := append(zeroForms(), api.Rat{Neg: true, Num: []uint32{4294967295, 0}, Den: []uint32{2}}, api.Rat{})
	want := append(slices.Repeat([]api.Rat{zero}, len(zeroForms())), api.Rat{Neg: true, Num: []uint32{294967295, 4}, Den: []uint32{2}})
	if got := binomial.Canonical(inner); !sameForms(got, want) {
		t.Error(got)
	}
}

func TestCanonicalOfAnyLength(t *testing.T) {
	for _, length := range []int{34, 35, 100, 5000} {
		p := slices.Repeat(list("2/4"), length)
		expectList(t, "long", binomial.Canonical(p), true, strings.Repeat("1/2 ", length))
		expectList(t, "long with zeros", binomial.Canonical(append(p, zeroForms()...)), true, strings.Repeat("1/2 ", length))
		expectList(t, "long zero", binomial.Canonical(make([]api.Rat, length)), true, "")
	}
}

func TestEval(t *testing.T) {
	for _, p := range manyLists() {
		value := polynomial(p)
		for _, n := range []int64{math.MinInt64, -5, -1, 0, 1, 2, 3, 16, 31, 32, 33, 1000, 1 << 40, math.MaxInt64} {
			got, ok := binomial.Eval(p, n)
			expectNumber(t, "Eval "+text(p)+" at "+strconv.FormatInt(n, 10), got, ok, value(max(0, n)))
		}
	}
}

func TestEvalTable(t *testing.T) {
	for _, c := range []struct {
		p    string
		n    int64
		want string
	}{
		{"", 7, "0"}, {"", -7, "0"}, {"0 0", 7, "0"}, {"5", 0, "5"}, {"5 3", -1, "5"}, {"5 3", math.MinInt64, "5"}, {"5 3", 2, "11"}, {"0 1 2", 9, "81"},
		{"0 1/2", 3, "3/2"}, {"1 -1/2 1/3", 4, "1"}, {"0 0 0 1", 2, "0"}, {"-1/2 0 0", 100, "-1/2"}, {"0 0 1", math.MaxInt64, "42535295865117307919086767873688862721"},
	} {
		if got, ok := binomial.Eval(list(c.p), c.n); !ok || rational.Format(got) != c.want {
			t.Error(c, rational.Format(got), ok)
		}
	}
}

func TestEvalRefuses(t *testing.T) {
	for _, p := range tooLong() {
		for _, n := range []int64{-1, 0, 1, 50} {
			if got, ok := binomial.Eval(p, n); ok || !sameForm(got, zero) {
				t.Error(len(p), n, got, ok)
			}
		}
	}
}

// Promise 2.2

func factorial(n int) *big.Int {
	return new(big.Int).MulRange(1, int64(n))
}

func TestProduct(t *testing.T) {
	for a := range 17 {
		for b := range 17 {
			got, ok := binomial.Product(a, b)
			if !ok || len(got) != a+b+1 {
				t.Error(a, b, got, ok)
				continue
			}
			for k, element := range got {
				want := new(big.Rat)
				if k >= max(a, b) {
					others := new(big.Int).Mul(factorial(k-a), factorial(k-b))
					want.SetFrac(factorial(k), others.Mul(others, factorial(a+b-k)))
				}
				expectNumber(t, "Product "+strconv.Itoa(a)+" "+strconv.Itoa(b), element, true, want)
			}
			expectPolynomial(t, "Product", got, ok, func(n int64) *big.Rat {
				return new(big.Rat).Mul(definedChoose(n, a), definedChoose(n, b))
			})
		}
	}
}

func TestProductTable(t *testing.T) {
	for _, c := range []struct {
		a, b int
		want string
	}{
		{0, 0, "1"}, {0, 1, "0 1"}, {1, 0, "0 1"}, {1, 1, "0 1 2"}, {1, 2, "0 0 2 3"}, {2, 2, "0 0 1 6 6"}, {0, 16, strings.Repeat("0 ", 16) + "1"},
	} {
		got, ok := binomial.Product(c.a, c.b)
		expectList(t, "Product", got, ok, c.want)
	}
}

func TestProductRefuses(t *testing.T) {
	for _, outside := range []int{-1, -2, 17, 18, 33, math.MinInt, math.MaxInt} {
		for _, other := range []int{-1, 0, 1, 16, 17, math.MinInt, math.MaxInt} {
			got, ok := binomial.Product(outside, other)
			expectRefused(t, "Product", got, ok)
			got, ok = binomial.Product(other, outside)
			expectRefused(t, "Product", got, ok)
		}
	}
}

func TestAdd(t *testing.T) {
	lists := manyLists()
	for i, p := range lists {
		for j := 0; j < len(lists); j += 1 + i%4 {
			q := lists[j]
			got, ok := binomial.Add(p, q)
			if !ok || !isCanonical(got) || len(got) > max(len(p), len(q)) {
				t.Error(text(p), text(q), got, ok)
				continue
			}
			for k := range max(len(p), len(q)) {
				want := new(big.Rat).Add(denoted(elementAt(p, k)), denoted(elementAt(q, k)))
				expectNumber(t, "Add", rational.Canonical(elementAt(got, k)), true, want)
			}
		}
	}
}

func elementAt(p []api.Rat, k int) api.Rat {
	if k < len(p) {
		return p[k]
	}
	return api.Rat{}
}

func TestAddTable(t *testing.T) {
	for _, c := range [][3]string{
		{"", "", ""}, {"1", "", "1"}, {"", "1 0", "1"}, {"0 0", "0", ""}, {"1 2 3", "1/2 1/2", "3/2 5/2 3"}, {"1 2 3", "0 0 -3", "1 2"}, {"1 2 3", "-1 -2 -3", ""}, {"1 2 3", "0 -2 -3 0", "1"},
	} {
		got, ok := binomial.Add(list(c[0]), list(c[1]))
		expectList(t, "Add "+c[0]+" to "+c[1], got, ok, c[2])
	}
	full := slices.Repeat(list("1"), longest)
	got, ok := binomial.Add(full, full)
	expectList(t, "Add of 33 elements", got, ok, strings.Repeat("2 ", longest))
	got, ok = binomial.Add(full, nil)
	expectList(t, "Add of 33 elements and none", got, ok, strings.Repeat("1 ", longest))
}

func TestMul(t *testing.T) {
	lists := manyLists()
	var values []func(n int64) *big.Rat
	for _, p := range lists {
		values = append(values, polynomial(p))
	}
	for i, p := range lists {
		for j, q := range lists {
			left, right := len(binomial.Canonical(p)), len(binomial.Canonical(q))
			if left*right > 60 && (left+right)%5 > 0 {
				continue
			}
			got, ok := binomial.Mul(p, q)
			if left > 0 && right > 0 && left+right > 34 {
				expectRefused(t, "Mul", got, ok)
				continue
			}
			expectPolynomial(t, "Mul of "+text(p)+" and "+text(q), got, ok, func(n int64) *big.Rat {
				return new(big.Rat).Mul(values[i](n), values[j](n))
			})
		}
	}
}

func TestMulTable(t *testing.T) {
	for _, c := range [][3]string{
		{"", "", ""}, {"", "1 2", ""}, {"1 2", "", ""}, {"0", "1 2", ""}, {"1", "1 2", "1 2"}, {"0 1", "0 1", "0 1 2"}, {"1 1", "1 -1", "1 -1 -2"}, {"1/2", "0 0 2 0", "0 0 1"},
		{"0 1 2", "0 1", "0 1 6 6"}, {"2/3 0 0", "3/2 0", "1"}, {"0 0 1", "0 0 1", "0 0 1 6 6"},
	} {
		got, ok := binomial.Mul(list(c[0]), list(c[1]))
		expectList(t, "Mul "+c[0]+" by "+c[1], got, ok, c[2])
	}
}

// monomial has length elements and denotes C(n, length - 1).
func monomial(length int) []api.Rat {
	p := make([]api.Rat, length)
	p[length-1] = rational.FromInt(1)
	return p
}

func TestMulAtTheGreatestLength(t *testing.T) {
	for left := 1; left <= longest; left++ {
		p := monomial(left)
		right := longest + 1 - left
		got, ok := binomial.Mul(p, monomial(right))
		if len(got) != longest {
			t.Error(left, len(got))
		}
		expectPolynomial(t, "33 elements", got, ok, func(n int64) *big.Rat {
			return new(big.Rat).Mul(definedChoose(n, left-1), definedChoose(n, right-1))
		})
		// Zeros at the end do not count.
		got, ok = binomial.Mul(p, append(monomial(right), make([]api.Rat, longest-right)...))
		if !ok || len(got) != longest {
			t.Error(left, len(got), ok)
		}
		if right < longest {
			got, ok = binomial.Mul(p, monomial(right+1))
			expectRefused(t, "34 elements", got, ok)
		}
		for _, nothing := range [][]api.Rat{nil, make([]api.Rat, longest), zeroForms()} {
			got, ok = binomial.Mul(p, nothing)
			expectList(t, "Mul by 0", got, ok, "")
			got, ok = binomial.Mul(nothing, p)
			expectList(t, "Mul of 0", got, ok, "")
		}
	}
	full := monomial(longest)
	got, ok := binomial.Mul(full, full)
	expectRefused(t, "65 elements", got, ok)
}

func TestAddAndMulRefuseLongLists(t *testing.T) {
	for _, p := range tooLong() {
		for _, q := range append(tooLong(), nil, list("0"), list("1"), make([]api.Rat, longest)) {
			for _, f := range binaryFunctions() {
				got, ok := f(p, q)
				expectRefused(t, "first too long", got, ok)
				got, ok = f(q, p)
				expectRefused(t, "second too long", got, ok)
			}
		}
	}
}

// Promise 2.3

func TestShift(t *testing.T) {
	for _, p := range manyLists() {
		value := polynomial(p)
		for _, c := range []int64{0, 1, -1, 2, -2, 7, -33, 100, 999999, 1<<20 - 1, 1 << 20, -1<<20 + 1, -1 << 20} {
			got, ok := binomial.Shift(p, c)
			expectPolynomial(t, "Shift of "+text(p)+" by "+strconv.FormatInt(c, 10), got, ok, func(n int64) *big.Rat {
				return value(n + c)
			})
			back, ok := binomial.Shift(got, -c)
			if !ok || !sameForms(back, binomial.Canonical(p)) {
				t.Error(text(p), c, text(back), ok)
			}
		}
	}
}

func TestShiftTable(t *testing.T) {
	for _, s := range []struct {
		p    string
		c    int64
		want string
	}{
		{"0 0 1", 1, "0 1 1"}, {"0 0 1", -1, "1 -1 1"}, {"0 1", -1, "-1 1"}, {"0 1", 5, "5 1"}, {"", 3, ""}, {"0 0", -3, ""}, {"1/2 0", 1000, "1/2"}, {"1 2 3 0", 0, "1 2 3"},
		{"0 1", 1 << 20, "1048576 1"}, {"0 1", -1 << 20, "-1048576 1"}, {"0 0 1", -1 << 20, "549756338176 -1048576 1"}, {"-1/3 1/3", 1, "0 1/3"},
	} {
		got, ok := binomial.Shift(list(s.p), s.c)
		expectList(t, "Shift "+s.p, got, ok, s.want)
	}
}

func TestShiftRefuses(t *testing.T) {
	for _, c := range []int64{1<<20 + 1, -1<<20 - 1, 1 << 21, 1 << 32, -1 << 32, math.MinInt64, math.MaxInt64} {
		for _, p := range [][]api.Rat{nil, list("0"), list("1"), list("0 1"), make([]api.Rat, longest+1)} {
			got, ok := binomial.Shift(p, c)
			expectRefused(t, "Shift too far", got, ok)
		}
	}
	for _, p := range tooLong() {
		for _, c := range []int64{0, 1, -1 << 20, 1 << 20} {
			got, ok := binomial.Shift(p, c)
			expectRefused(t, "Shift of a long list", got, ok)
		}
	}
}

// Promise 2.4

func TestPowers(t *testing.T) {
	for _, p := range manyLists() {
		got, ok := binomial.Powers(p)
		if !ok || !isCanonical(got) || len(got) != len(binomial.Canonical(p)) {
			t.Error(text(p), text(got), ok)
			continue
		}
		value, wanted := polynomialOfPowers(got), polynomial(p)
		for n := int64(-10); n <= 25; n++ {
			if value(n).Cmp(wanted(n)) != 0 {
				t.Error(text(p), text(got), n)
				break
			}
		}
		back, ok := binomial.FromPowers(got)
		if !ok || !sameForms(back, binomial.Canonical(p)) {
			t.Error(text(p), text(back), ok)
		}
	}
}

func TestFromPowers(t *testing.T) {
	for _, p := range manyLists() {
		got, ok := binomial.FromPowers(p)
		expectPolynomial(t, "FromPowers "+text(p), got, ok, polynomialOfPowers(p))
		back, ok := binomial.Powers(got)
		if !ok || !sameForms(back, binomial.Canonical(p)) {
			t.Error(text(p), text(back), ok)
		}
	}
}

func TestPowersTables(t *testing.T) {
	for _, c := range [][2]string{
		{"", ""}, {"5", "5"}, {"0 1", "0 1"}, {"0 0 1", "0 -1/2 1/2"}, {"0 1 2", "0 0 1"}, {"0 0 0 1", "0 1/3 -1/2 1/6"}, {"0 1 6 6", "0 0 0 1"}, {"0 1 14 36 24", "0 0 0 0 1"}, {"1/2 -1 4", "1/2 -3 2"},
	} {
		got, ok := binomial.Powers(list(c[0]))
		expectList(t, "Powers "+c[0], got, ok, c[1])
		got, ok = binomial.FromPowers(list(c[1]))
		expectList(t, "FromPowers "+c[1], got, ok, c[0])
		got, ok = binomial.Powers(append(list(c[0]), zeroForms()...))
		expectList(t, "Powers with zeros "+c[0], got, ok, c[1])
		got, ok = binomial.FromPowers(append(list(c[1]), zeroForms()...))
		expectList(t, "FromPowers with zeros "+c[1], got, ok, c[0])
	}
}

// Promise 2.5

func TestDifferences(t *testing.T) {
	for _, v := range manyLists() {
		got, ok := binomial.Differences(v)
		if !ok || len(got) > len(v) || !isCanonical(got) {
			t.Error(text(v), text(got), ok)
			continue
		}
		value := polynomial(got)
		for i := range v {
			if value(int64(i)).Cmp(denoted(v[i])) != 0 {
				t.Error(text(v), text(got), i)
			}
		}
	}
}

func TestDifferencesOfValues(t *testing.T) {
	for _, p := range manyLists() {
		for _, length := range []int{len(p), (len(p) + longest) / 2, longest} {
			values := make([]api.Rat, length)
			for i := range values {
				values[i], _ = binomial.Eval(p, int64(i))
			}
			got, ok := binomial.Differences(values)
			if !ok || !sameForms(got, binomial.Canonical(p)) {
				t.Error(text(p), text(got), ok)
			}
		}
	}
}

func TestDifferencesTable(t *testing.T) {
	for _, c := range [][2]string{
		{"", ""}, {"0", ""}, {"0 0 0", ""}, {"7", "7"}, {"7 7 7", "7"}, {"0 1 4 9", "0 1 2"}, {"1 0", "1 -1"}, {"0 0 0 1", "0 0 0 1"}, {"1 2 4 8 16", "1 1 1 1 1"}, {"1/2 1 5/2", "1/2 1/2 1"},
	} {
		got, ok := binomial.Differences(list(c[0]))
		expectList(t, "Differences "+c[0], got, ok, c[1])
	}
}

// Terms, consequences and rules

func unaryFunctions() []func(p []api.Rat) ([]api.Rat, bool) {
	return []func(p []api.Rat) ([]api.Rat, bool){
		func(p []api.Rat) ([]api.Rat, bool) { return binomial.Canonical(p), true },
		func(p []api.Rat) ([]api.Rat, bool) { return binomial.Shift(p, 3) },
		func(p []api.Rat) ([]api.Rat, bool) { return binomial.Shift(p, 0) },
		binomial.Powers, binomial.FromPowers, binomial.Differences,
		func(p []api.Rat) ([]api.Rat, bool) {
			value, ok := binomial.Eval(p, 5)
			return []api.Rat{value}, ok
		},
	}
}

func binaryFunctions() []func(p, q []api.Rat) ([]api.Rat, bool) {
	return []func(p, q []api.Rat) ([]api.Rat, bool){binomial.Add, binomial.Mul}
}

func TestLongListsAreRefused(t *testing.T) {
	for _, p := range tooLong() {
		for _, f := range []func(p []api.Rat) ([]api.Rat, bool){binomial.Powers, binomial.FromPowers, binomial.Differences} {
			got, ok := f(p)
			expectRefused(t, "34 elements", got, ok)
		}
	}
}

func TestEvalOfSumsAndProducts(t *testing.T) {
	lists := manyLists()
	for i, p := range lists {
		q := lists[(7*i+3)%len(lists)]
		sum, _ := binomial.Add(p, q)
		product, ok := binomial.Mul(p, q)
		for _, n := range []int64{-3, 0, 1, 6, 1 << 30} {
			x, _ := binomial.Eval(p, n)
			y, _ := binomial.Eval(q, n)
			if value, _ := binomial.Eval(sum, n); !sameForm(value, rational.Add(x, y)) {
				t.Error("sum", text(p), text(q), n)
			}
			if value, _ := binomial.Eval(product, n); ok && !sameForm(value, rational.Mul(x, y)) {
				t.Error("product", text(p), text(q), n)
			}
		}
	}
}

func TestResultsDoNotDependOnForms(t *testing.T) {
	lists := manyLists()
	for i, p := range lists {
		q := lists[(5*i+2)%len(lists)]
		for n, f := range unaryFunctions() {
			x, first := f(p)
			y, second := f(otherForm(p))
			// One more value changes the polynomial through the values.
			if n != 5 && (first != second || !sameForms(x, y)) {
				t.Error(n, text(p), text(x), text(y))
			}
		}
		for n, f := range binaryFunctions() {
			x, first := f(p, q)
			y, second := f(otherForm(p), otherForm(q))
			if first != second || !sameForms(x, y) {
				t.Error(n, text(p), text(q), text(x), text(y))
			}
		}
		x, _ := binomial.Differences(p)
		y, _ := binomial.Differences(otherForm(p)[:len(p)])
		if !sameForms(x, y) {
			t.Error(text(p), text(x), text(y))
		}
	}
}

func cloned(p []api.Rat) []api.Rat {
	var q []api.Rat
	for _, a := range p {
		q = append(q, api.Rat{Neg: a.Neg, Num: slices.Clone(a.Num), Den: slices.Clone(a.Den)})
	}
	return q
}

// overwrite also reaches what lies behind the end of limbs.
func overwrite(limbs []uint32) {
	limbs = limbs[:cap(limbs)]
	for i := range limbs {
		limbs[i] = 77
	}
}

// checkMemory writes over the first result of compute, element by element, and looks whether anything else changes.
func checkMemory(t *testing.T, what string, compute func() []api.Rat, arguments ...[]api.Rat) {
	t.Helper()
	var before [][]api.Rat
	for _, p := range arguments {
		before = append(before, cloned(p))
	}
	result, other := compute(), compute()
	want := cloned(result)
	for k := range result {
		overwrite(result[k].Num)
		if !slices.Equal(result[k].Den, want[k].Den) {
			t.Error(what, "numerator and denominator share memory")
		}
		overwrite(result[k].Den)
		if !sameForms(result[k+1:], want[k+1:]) {
			t.Error(what, "elements share memory")
		}
		result[k] = api.Rat{Num: []uint32{88}, Den: []uint32{1}}
	}
	if !sameForms(other, want) || !sameForms(compute(), want) {
		t.Error(what, "results share memory")
	}
	for i, p := range arguments {
		if !sameForms(p, before[i]) {
			t.Error(what, "an argument was changed or is shared")
		}
	}
}

func TestMemoryIsNotShared(t *testing.T) {
	lists := manyLists()
	for i := range lists {
		p, q := cloned(lists[i]), cloned(lists[(3*i+1)%len(lists)])
		for n, f := range unaryFunctions() {
			compute := func() []api.Rat { result, _ := f(p); return result }
			checkMemory(t, "unary "+strconv.Itoa(n), compute, p)
		}
		for n, f := range binaryFunctions() {
			checkMemory(t, "binary "+strconv.Itoa(n), func() []api.Rat { result, _ := f(p, q); return result }, p, q)
			checkMemory(t, "both "+strconv.Itoa(n), func() []api.Rat { result, _ := f(p, p); return result }, p)
		}
	}
	checkMemory(t, "Product", func() []api.Rat { result, _ := binomial.Product(3, 5); return result })
	for _, k := range []int{-1, 0, 1, 3, 65} {
		checkMemory(t, "Choose", func() []api.Rat { value, _ := binomial.Choose(7, k); return []api.Rat{value} })
	}
	checkMemory(t, "Eval", func() []api.Rat { value, _ := binomial.Eval(make([]api.Rat, 34), 1); return []api.Rat{value} })
}

func TestSharedArgumentsAreNotRetained(t *testing.T) {
	// All elements of the argument are one number in one place.
	for length := range longest + 1 {
		p := slices.Repeat([]api.Rat{{Num: []uint32{3, 1, 0}, Den: []uint32{2}}}, length)
		for n, f := range unaryFunctions() {
			checkMemory(t, "repeated "+strconv.Itoa(n), func() []api.Rat { result, _ := f(p); return result }, p)
		}
	}
}

func TestLongDenominators(t *testing.T) {
	s := sequence(4)
	p := s.list(17, func() api.Rat { return s.longNumber(22) })
	q := s.list(17, func() api.Rat { return s.longNumber(22) })
	product, ok := binomial.Mul(p, q)
	shifted, shiftOk := binomial.Shift(p, -1<<20)
	if !ok || !shiftOk || !isCanonical(product) || !isCanonical(shifted) {
		t.Fatal(len(product), ok, len(shifted), shiftOk)
	}
	x, y := polynomial(p), polynomial(q)
	for _, n := range []int64{-3, 0, 5, 40} {
		if polynomial(product)(n).Cmp(new(big.Rat).Mul(x(n), y(n))) != 0 {
			t.Error("Mul", n)
		}
		if polynomial(shifted)(n).Cmp(x(n-1<<20)) != 0 {
			t.Error("Shift", n)
		}
	}
}
