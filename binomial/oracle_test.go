package binomial_test

import (
	"math/big"
	"slices"
	"strings"
	"testing"

	"amortcost/api"
	"amortcost/rational"
)

// This file contains what the tests of the promises share: the definition of the chapter in terms of math/big, and many lists in many forms.

const longest = 33

// denoted relies on rational.Format, which has tests of its own.
func denoted(a api.Rat) *big.Rat {
	value, ok := new(big.Rat).SetString(rational.Format(a))
	if !ok {
		panic("not a number: " + rational.Format(a))
	}
	return value
}

func limbsOf(n *big.Int) []uint32 {
	var limbs []uint32
	rest, limb := new(big.Int).Abs(n), new(big.Int)
	for rest.Sign() != 0 {
		rest.DivMod(rest, big.NewInt(1000000000), limb)
		limbs = append(limbs, uint32(limb.Uint64()))
	}
	return limbs
}

func canonicalOf(n *big.Rat) api.Rat {
	return api.Rat{Neg: n.Sign() < 0, Num: limbsOf(n.Num()), Den: limbsOf(n.Denom())}
}

// sameForm compares limbs, not numbers.
func sameForm(a, b api.Rat) bool {
	return a.Neg == b.Neg && slices.Equal(a.Num, b.Num) && slices.Equal(a.Den, b.Den)
}

func sameForms(p, q []api.Rat) bool {
	return slices.EqualFunc(p, q, sameForm)
}

// list reads numbers with spaces between them.
func list(text string) []api.Rat {
	var p []api.Rat
	for _, word := range strings.Fields(text) {
		a, ok := rational.Parse(word)
		if !ok {
			panic("not a number: " + word)
		}
		p = append(p, a)
	}
	return p
}

func text(p []api.Rat) string {
	var words []string
	for _, a := range p {
		words = append(words, rational.Format(a))
	}
	return strings.Join(words, " ")
}

func expectNumber(t *testing.T, what string, got api.Rat, ok bool, want *big.Rat) {
	t.Helper()
	if !ok || !sameForm(got, canonicalOf(want)) {
		t.Errorf("%s: got %v, %v, want %v", what, got, ok, canonicalOf(want))
	}
}

func expectList(t *testing.T, what string, got []api.Rat, ok bool, want string) {
	t.Helper()
	if !ok || !sameForms(got, list(want)) {
		t.Errorf("%s: got %v, %v, want %v", what, got, ok, want)
	}
}

func expectRefused(t *testing.T, what string, got []api.Rat, ok bool) {
	t.Helper()
	if ok || len(got) > 0 {
		t.Errorf("%s: got %v, %v, want false", what, got, ok)
	}
}

// definedChoose follows the definition: n (n - 1) .. (n - k + 1) / k!, for every n.
func definedChoose(n int64, k int) *big.Rat {
	value := new(big.Rat).SetInt64(1)
	for i := range int64(k) {
		value.Mul(value, new(big.Rat).SetInt64(n-i))
		value.Quo(value, new(big.Rat).SetInt64(i+1))
	}
	return value
}

// polynomial returns the function that p denotes by definition: the sum of p[k] * C(n, k), for every n. It keeps the values, because the tests ask for them many times.
func polynomial(p []api.Rat) func(n int64) *big.Rat {
	var coefficients []*big.Rat
	for _, a := range p {
		coefficients = append(coefficients, denoted(a))
	}
	values := map[int64]*big.Rat{}
	return func(n int64) *big.Rat {
		if values[n] == nil {
			sum, choose := new(big.Rat), new(big.Rat).SetInt64(1)
			for k, a := range coefficients {
				sum.Add(sum, new(big.Rat).Mul(a, choose))
				choose.Mul(choose, new(big.Rat).SetInt64(n-int64(k)))
				choose.Quo(choose, new(big.Rat).SetInt64(int64(k)+1))
			}
			values[n] = sum
		}
		return values[n]
	}
}

// polynomialOfPowers returns the sum of p[k] * n^k.
func polynomialOfPowers(p []api.Rat) func(n int64) *big.Rat {
	return func(n int64) *big.Rat {
		sum, power := new(big.Rat), new(big.Rat).SetInt64(1)
		for _, a := range p {
			sum.Add(sum, new(big.Rat).Mul(denoted(a), power))
			power.Mul(power, new(big.Rat).SetInt64(n))
		}
		return sum
	}
}

// isCanonical also holds for lists that are too long.
func isCanonical(p []api.Rat) bool {
	for _, a := range p {
		if !sameForm(a, canonicalOf(denoted(a))) {
			return false
		}
	}
	return len(p) == 0 || denoted(p[len(p)-1]).Sign() != 0
}

// expectPolynomial compares at more places than a polynomial of degree below 33 needs, also at negative ones.
func expectPolynomial(t *testing.T, what string, got []api.Rat, ok bool, want func(n int64) *big.Rat) {
	t.Helper()
	if !ok || len(got) > longest || !isCanonical(got) {
		t.Errorf("%s: got %v, %v, which is not a canonical list", what, got, ok)
		return
	}
	value := polynomial(got)
	for n := int64(-10); n <= 25; n++ {
		if x, y := value(n), want(n); x.Cmp(y) != 0 {
			t.Errorf("%s: %s has the value %v at %d, want %v", what, text(got), x, n, y)
			return
		}
	}
}

// sequence makes numbers that look random and are the same in every run.
type sequence uint64

func (s *sequence) next(bound int) int {
	*s = *s*6364136223846793005 + 1442695040888963407
	return int(uint64(*s>>33) % uint64(bound))
}

func (s *sequence) smallNumber() api.Rat {
	return api.Rat{Neg: s.next(2) == 0, Num: []uint32{uint32(s.next(9))}, Den: []uint32{uint32(1 + s.next(6))}}
}

func (s *sequence) longNumber(limbs int) api.Rat {
	a := api.Rat{Neg: s.next(2) == 0}
	for range limbs {
		a.Num = append(a.Num, uint32(s.next(1<<32)))
		a.Den = append(a.Den, uint32(s.next(1<<32)))
	}
	return a
}

func (s *sequence) list(length int, number func() api.Rat) []api.Rat {
	p := make([]api.Rat, length)
	for k := range p {
		p[k] = number()
	}
	return p
}

// zeroForms contains numbers that denote 0.
func zeroForms() []api.Rat {
	return []api.Rat{
		{}, {Neg: true}, {Den: []uint32{1}}, {Neg: true, Den: []uint32{1}}, {Num: []uint32{5}}, {Num: []uint32{0, 0}, Den: []uint32{7}},
		{Neg: true, Num: []uint32{3}, Den: []uint32{0, 0}}, {Neg: true, Num: []uint32{0}, Den: []uint32{4294967295}},
	}
}

// manyLists contains the empty list, lists with zeros inside and at the end, numbers that are not canonical, long numbers, and lists of up to 33 elements.
func manyLists() [][]api.Rat {
	lists := [][]api.Rat{
		nil, {}, zeroForms(), list("1"), list("-1/2"), list("0 1"), list("0 0 1"), list("0 0 1 0"), list("5 0 0"), list("0 0 0"), list("1 2 3 4"),
		append(list("1/2 0 -3"), zeroForms()...), append(zeroForms(), list("7/3")...),
		{{Num: []uint32{6, 0}, Den: []uint32{4, 0, 0}}, {Num: []uint32{4294967295}, Den: []uint32{4294967295}}, {Neg: true, Num: []uint32{0, 0, 5}, Den: []uint32{0, 10}}, {}},
		list("1000000000000000000000/7 -99999999999999999999999/1000000000000 1/3"),
		append(make([]api.Rat, longest-1), list("1")...), append(list("1"), make([]api.Rat, longest-1)...), make([]api.Rat, longest),
	}
	s := sequence(2)
	for length := range longest + 1 {
		lists = append(lists, s.list(length, s.smallNumber))
	}
	for _, length := range []int{1, 2, 5, 17, longest} {
		lists = append(lists, s.list(length, func() api.Rat { return s.longNumber(1 + s.next(3)) }))
	}
	return lists
}

// tooLong contains lists of more than 33 elements, also such that denote short polynomials.
func tooLong() [][]api.Rat {
	s := sequence(3)
	return [][]api.Rat{
		make([]api.Rat, longest+1), append(list("1"), make([]api.Rat, longest)...), s.list(longest+1, s.smallNumber),
		slices.Repeat(list("0"), longest+1), slices.Repeat(list("1"), longest+2), make([]api.Rat, 1000),
	}
}

func multiplyLimbs(limbs []uint32, factor int64) []uint32 {
	product := new(big.Int)
	for i := len(limbs) - 1; i >= 0; i-- {
		product.Mul(product, big.NewInt(1000000000))
		product.Add(product, big.NewInt(int64(limbs[i])))
	}
	return limbsOf(product.Mul(product, big.NewInt(factor)))
}

// otherForm denotes the same polynomial: with common divisors, limbs that are 0 at the end, and, as far as there is room, one more element that is 0.
func otherForm(p []api.Rat) []api.Rat {
	var q []api.Rat
	for k, a := range p {
		factor := int64(6000000007 + k)
		q = append(q, api.Rat{Neg: a.Neg, Num: append(multiplyLimbs(a.Num, factor), 0), Den: append(multiplyLimbs(a.Den, factor), 0, 0)})
	}
	if len(q) < longest {
		q = append(q, api.Rat{Neg: true, Num: []uint32{0}, Den: []uint32{9, 9}})
	}
	return q
}
