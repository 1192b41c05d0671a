package rational_test

import (
	"math/big"
	"slices"
	"testing"

	"amortcost/api"
	"amortcost/rational"
)

// This file contains what the tests of the promises share: an independent reading of api.Rat, and many numbers in many forms.

const limbBase = 1000000000

// bigNatural follows the definition of the chapter: the sum of list[i] * 10^(9 i).
func bigNatural(list []uint32) *big.Int {
	sum := new(big.Int)
	for i := len(list) - 1; i >= 0; i-- {
		sum.Mul(sum, big.NewInt(limbBase))
		sum.Add(sum, new(big.Int).SetUint64(uint64(list[i])))
	}
	return sum
}

func denoted(a api.Rat) *big.Rat {
	num, den := bigNatural(a.Num), bigNatural(a.Den)
	if den.Sign() == 0 {
		return new(big.Rat)
	}
	if a.Neg {
		num.Neg(num)
	}
	return new(big.Rat).SetFrac(num, den)
}

func limbsOf(n *big.Int) []uint32 {
	var list []uint32
	rest, limb := new(big.Int).Abs(n), new(big.Int)
	for rest.Sign() != 0 {
		rest.DivMod(rest, big.NewInt(limbBase), limb)
		list = append(list, uint32(limb.Uint64()))
	}
	return list
}

func canonicalOf(n *big.Rat) api.Rat {
	return api.Rat{Neg: n.Sign() < 0, Num: limbsOf(n.Num()), Den: limbsOf(n.Denom())}
}

// sameForm compares limbs, not numbers.
func sameForm(a, b api.Rat) bool {
	return a.Neg == b.Neg && slices.Equal(a.Num, b.Num) && slices.Equal(a.Den, b.Den)
}

func expect(t *testing.T, what string, got api.Rat, want *big.Rat) {
	t.Helper()
	if !sameForm(got, canonicalOf(want)) {
		t.Errorf("%s: got %v, want %v", what, got, canonicalOf(want))
	}
}

// edgeForms contains the forms that the document names.
func edgeForms() []api.Rat {
	return []api.Rat{
		{},
		{Neg: true},
		{Den: []uint32{1}},
		{Neg: true, Den: []uint32{1}},
		{Num: []uint32{5}},
		{Num: []uint32{}, Den: []uint32{}},
		{Num: []uint32{0, 0}, Den: []uint32{7}},
		{Neg: true, Num: []uint32{0}, Den: []uint32{7, 7}},
		{Neg: true, Num: []uint32{3}, Den: []uint32{0, 0}},
		{Num: []uint32{3}, Den: []uint32{0}},
		{Num: []uint32{1}, Den: []uint32{1}},
		{Neg: true, Num: []uint32{1, 0, 0}, Den: []uint32{1, 0}},
		{Num: []uint32{6}, Den: []uint32{4}},
		{Neg: true, Num: []uint32{7}, Den: []uint32{2}},
		{Num: []uint32{7}, Den: []uint32{2}},
		{Neg: true, Num: []uint32{1}, Den: []uint32{3}},
		{Num: []uint32{999999999}, Den: []uint32{999999998}},
		{Num: []uint32{1000000000}, Den: []uint32{1}},
		{Num: []uint32{0, 1}, Den: []uint32{1}},
		{Num: []uint32{1}, Den: []uint32{1000000000}},
		{Num: []uint32{4294967295}, Den: []uint32{1}},
		{Neg: true, Num: []uint32{4294967291}, Den: []uint32{999999999}},
		{Num: []uint32{1}, Den: []uint32{4294967295}},
		{Neg: true, Num: []uint32{999999999}, Den: []uint32{4294967291}},
		{Neg: true, Num: []uint32{4294967295}, Den: []uint32{4294967294}},
		{Neg: true, Num: []uint32{4294967295, 0}, Den: []uint32{2}},
		{Num: []uint32{4294967295, 4294967295, 4294967295}, Den: []uint32{4294967295, 4294967295}},
		{Num: []uint32{999999999, 999999999, 1000000000}, Den: []uint32{1000000000, 999999999}},
		{Num: []uint32{0, 0, 0, 1}, Den: []uint32{0, 0, 1, 0, 0}},
		{Num: []uint32{0, 6, 0}, Den: []uint32{0, 4, 0}},
		{Num: []uint32{854775807, 223372036, 9}, Den: []uint32{1}},
		{Neg: true, Num: []uint32{854775808, 223372036, 9}, Den: []uint32{1}},
		{Num: []uint32{854775808, 223372036, 9}, Den: []uint32{1}},
		{Neg: true, Num: []uint32{854775809, 223372036, 9}, Den: []uint32{1}},
		{Neg: true, Num: []uint32{709551616, 446744073, 18}, Den: []uint32{2}},
		{Num: []uint32{709551616, 446744073, 18}, Den: []uint32{1}},
		{Num: []uint32{0, 0, 0, 0, 1}, Den: []uint32{1}},
		{Num: []uint32{1, 0, 0, 0, 1}, Den: []uint32{3, 0, 0, 7}},
	}
}

// sequence makes numbers that look random and are the same in every run.
type sequence uint64

func (s *sequence) next(bound int) int {
	*s = *s*6364136223846793005 + 1442695040888963407
	return int(uint64(*s>>33) % uint64(bound))
}

// limb prefers the values at which carries and guesses of quotients go wrong.
func (s *sequence) limb() uint32 {
	special := []uint32{0, 0, 1, 2, 499999999, 500000000, 999999998, 999999999, 1000000000, 4294967295}
	if i := s.next(2 * len(special)); i < len(special) {
		return special[i]
	}
	return uint32(s.next(1 << 32))
}

func (s *sequence) list(most int) []uint32 {
	list := make([]uint32, s.next(most+1))
	for i := range list {
		list[i] = s.limb()
	}
	return list
}

func (s *sequence) number(most int) api.Rat {
	return api.Rat{Neg: s.next(2) == 0, Num: s.list(most), Den: s.list(most)}
}

// manyForms contains the edge forms, small fractions, and numbers of up to 6 limbs.
func manyForms() []api.Rat {
	forms := edgeForms()
	s := sequence(1)
	for range 60 {
		forms = append(forms, api.Rat{Neg: s.next(2) == 0, Num: []uint32{uint32(s.next(20))}, Den: []uint32{uint32(s.next(9))}})
		forms = append(forms, s.number(2), s.number(6))
	}
	return forms
}

// otherForm denotes the same number with common divisors, zeros at the end and great limbs.
func otherForm(a api.Rat) api.Rat {
	disguise := func(list []uint32) []uint32 {
		other := limbsOf(new(big.Int).Mul(bigNatural(list), big.NewInt(6000000007)))
		for i := range len(other) {
			if i > 0 && other[i] > 0 && other[i-1] <= 4294967295-limbBase {
				other[i]--
				other[i-1] += limbBase
			}
		}
		return append(other, 0, 0)
	}
	return api.Rat{Neg: a.Neg, Num: disguise(a.Num), Den: disguise(a.Den)}
}

func number(t *testing.T, s string) api.Rat {
	t.Helper()
	a, ok := rational.Parse(s)
	if !ok {
		t.Fatalf("Parse(%q) fails", s)
	}
	return a
}
