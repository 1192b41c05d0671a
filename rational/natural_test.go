package rational

import (
	"math/big"
	"slices"
	"testing"
)

// These tests look at the rare branches of long division and of Lehmer's steps, which few of the numbers of the other tests reach.

func bigOf(x natural) *big.Int {
	sum := new(big.Int)
	for i := len(x) - 1; i >= 0; i-- {
		sum.Mul(sum, big.NewInt(base))
		sum.Add(sum, big.NewInt(int64(x[i])))
	}
	return sum
}

func naturalFromText(t *testing.T, digits string) natural {
	t.Helper()
	x, ok := parseNatural(digits)
	if !ok {
		t.Fatal(digits)
	}
	return x
}

// limbsFrom reads the digits of code as choices of limbs.
func limbsFrom(code, count int) natural {
	choices := []uint32{0, 1, 499999999, 500000000, 500000001, 999999998, 999999999}
	x := make(natural, count)
	for i := range x {
		x[i] = choices[code%len(choices)]
		code /= len(choices)
	}
	return trim(x)
}

func TestDivideAtTheEndsOfLimbs(t *testing.T) {
	const codes = 7 * 7 * 7
	for top := range 7 * codes {
		x := limbsFrom(top, 4)
		for bottom := 1; bottom < codes; bottom++ {
			y := limbsFrom(bottom, 3)
			before := slices.Clone(x)
			quotient, rest := divide(x, y)
			if compare(rest, y) >= 0 || compare(add(multiply(quotient, y), rest), x) != 0 {
				t.Fatal(x, y, quotient, rest)
			}
			if !slices.Equal(x, before) {
				t.Fatal("an argument was changed", x, y)
			}
		}
	}
}

func TestDivideGivesBack(t *testing.T) {
	// The leading limbs suggest a quotient that is too great by 1 although the second limbs were compared.
	window := natural{0, 0, 500000000, 249999999}
	divisor := natural{1, 0, 500000000}
	want := new(big.Int)
	rest := new(big.Int)
	want.DivMod(bigOf(window), bigOf(divisor), rest)
	if got := takeMultiple(window, divisor); int64(got) != want.Int64() || bigOf(window).Cmp(rest) != 0 || window[3] != 0 {
		t.Error(got, want, window, rest)
	}
}

func TestCommonDivisor(t *testing.T) {
	ones := natural{}
	for range 30 {
		ones = append(ones, 999999999)
	}
	numbers := []natural{
		nil, {1}, {2}, {6}, {999999999}, {0, 1}, {999999999, 999999999}, {0, 0, 1}, {1, 0, 1}, {0, 0, 0, 0, 0, 1}, {1, 1, 1, 1, 1, 1},
		{999999999, 999999999, 999999999}, {999999998, 999999999, 999999999}, {0, 1, 1000}, {999999999, 999999999, 999},
		ones, multiply(ones, ones), multiply(ones, natural{6, 0, 1}), add(multiply(ones, natural{6, 0, 1}), natural{1}), subtract(ones, natural{1}),
		naturalFromText(t, "1298074214633706835075030044377087"), naturalFromText(t, "170141183460469231731687303715884105727"),
	}
	for code := range 150 {
		numbers = append(numbers, limbsFrom(code*code*code+code, 5))
	}
	for _, x := range numbers {
		for _, y := range numbers {
			if len(x)+len(y) == 0 {
				continue
			}
			want := new(big.Int).GCD(nil, nil, bigOf(x), bigOf(y))
			if got := commonDivisor(x, y); bigOf(got).Cmp(want) != 0 {
				t.Error(x, y, got, want)
			}
		}
	}
}

// TestLeadingSteps compares the steps that are taken at once with Euclid's algorithm on whole numbers.
func TestLeadingSteps(t *testing.T) {
	compared := 0
	for code := range 3000 {
		x, y := limbsFrom(code*7919, 4), limbsFrom(code*104729+5, 4)
		if len(x) != 4 || len(y) != 4 || compare(x, y) < 0 {
			continue
		}
		s := leadingSteps(leadingLimbs(x), leadingLimbs(y))
		if s.b == 0 {
			continue
		}
		compared++
		wantX, wantY := combine(s.a, x, s.b, y), combine(s.c, x, s.d, y)
		for compare(x, wantX) != 0 && len(y) > 0 {
			_, rest := divide(x, y)
			x, y = y, rest
		}
		if compare(x, wantX) != 0 || compare(y, wantY) != 0 {
			t.Error(code, s)
		}
	}
	if compared < 100 {
		t.Error("hardly any steps were taken at once", compared)
	}
}

func TestWord(t *testing.T) {
	for _, c := range []struct {
		digits string
		want   uint64
		fits   bool
	}{
		{"0", 0, true}, {"1000000000", 1000000000, true}, {"18446744073709551615", 1<<64 - 1, true}, {"18446744073709551616", 0, false},
		{"18446744074000000000", 0, false}, {"19000000000000000000", 0, false}, {"1000000000000000000000000000", 0, false},
	} {
		if got, fits := naturalFromText(t, c.digits).word(); got != c.want || fits != c.fits {
			t.Error(c, got, fits)
		}
	}
}
