// Package rational computes with exact rational numbers: see the chapter 01-rational.md of the document.
package rational

import (
	"cmp"

	"amortcost/api"
)

// FromInt returns the number n.
func FromInt(n int64) api.Rat {
	return Small(n, 1)
}

// Small returns a / b, and 0 if b is 0.
func Small(a, b int64) api.Rat {
	if a == 0 || b == 0 {
		return zero()
	}
	top, bottom := magnitude(a), magnitude(b)
	common := commonDivisorOfWords(top, bottom)
	return api.Rat{
		Neg: (a < 0) != (b < 0),
		Num: naturalOf(top / common),
		Den: naturalOf(bottom / common),
	}
}

// ToInt returns the number and true if it is an integer that fits, and otherwise 0 and false.
func ToInt(a api.Rat) (int64, bool) {
	f := read(a)
	quotient, rest := divide(f.num, f.den)
	size, fits := quotient.word()
	if len(rest) > 0 || !fits {
		return 0, false
	}
	// The negative range reaches one further than the positive one; there the conversion below wraps around to -2^63, as does its negation.
	greatest := uint64(1<<63 - 1)
	if f.negative {
		greatest++
	}
	if size > greatest {
		return 0, false
	}
	if f.negative {
		return -int64(size), true
	}
	return int64(size), true
}

// Canonical returns the canonical form of a number.
func Canonical(a api.Rat) api.Rat {
	if x, ok := readSmall(a); ok {
		return Small(x.num, x.den)
	}
	return read(a).canonical()
}

// Integral reports whether a number is an integer.
func Integral(a api.Rat) bool {
	f := read(a)
	_, rest := divide(f.num, f.den)
	return len(rest) == 0
}

// Sign returns -1, 0 or 1.
func Sign(a api.Rat) int {
	switch {
	case denotesZero(a.Num) || denotesZero(a.Den):
		return 0
	case a.Neg:
		return -1
	}
	return 1
}

// Cmp returns -1 if a < b, 0 if a = b, and 1 if a > b.
func Cmp(a, b api.Rat) int {
	if x, y, ok := readSmallPair(a, b); ok {
		return cmp.Compare(x.num*y.den, y.num*x.den)
	}
	sign := Sign(a)
	if other := Sign(b); sign != other {
		return cmp.Compare(sign, other)
	}
	f, g := read(a), read(b)
	return sign * compare(multiply(f.num, g.den), multiply(g.num, f.den))
}

// Neg returns -a.
func Neg(a api.Rat) api.Rat {
	return Canonical(negated(a))
}

// Abs returns the absolute value of a.
func Abs(a api.Rat) api.Rat {
	return Canonical(api.Rat{Num: a.Num, Den: a.Den})
}

// Add returns a + b.
func Add(a, b api.Rat) api.Rat {
	if x, y, ok := readSmallPair(a, b); ok {
		return Small(x.num*y.den+y.num*x.den, x.den*y.den)
	}
	f, g := read(a), read(b)
	left, right := multiply(f.num, g.den), multiply(g.num, f.den)
	sum := fraction{negative: f.negative, den: multiply(f.den, g.den)}
	switch {
	case f.negative == g.negative:
		sum.num = add(left, right)
	case compare(left, right) >= 0:
		sum.num = subtract(left, right)
	default:
		sum.negative, sum.num = g.negative, subtract(right, left)
	}
	return sum.canonical()
}

// Sub returns a - b.
func Sub(a, b api.Rat) api.Rat {
	return Add(a, negated(b))
}

// Mul returns a * b.
func Mul(a, b api.Rat) api.Rat {
	if x, y, ok := readSmallPair(a, b); ok {
		return Small(x.num*y.num, x.den*y.den)
	}
	f, g := read(a), read(b)
	product := fraction{f.negative != g.negative, multiply(f.num, g.num), multiply(f.den, g.den)}
	return product.canonical()
}

// Div returns a / b and true, or 0 and false if b is 0.
func Div(a, b api.Rat) (api.Rat, bool) {
	if Sign(b) == 0 {
		return zero(), false
	}
	return Mul(a, api.Rat{Neg: b.Neg, Num: b.Den, Den: b.Num}), true
}

// Floor returns the greatest integer that is at most a.
func Floor(a api.Rat) api.Rat {
	f := read(a)
	quotient, rest := divide(f.num, f.den)
	if f.negative && len(rest) > 0 {
		quotient = add(quotient, natural{1})
	}
	return fraction{f.negative, quotient, natural{1}}.canonical()
}

// Ceil returns the least integer that is at least a.
func Ceil(a api.Rat) api.Rat {
	return Neg(Floor(negated(a)))
}

// Sum returns the sum of its arguments.
func Sum(l ...api.Rat) api.Rat {
	total := zero()
	for _, a := range l {
		total = Add(total, a)
	}
	return total
}

// zero makes a new value each time, because results share no memory.
func zero() api.Rat {
	return api.Rat{Den: []uint32{1}}
}

// negated shares the memory of a, so it only serves as an argument.
func negated(a api.Rat) api.Rat {
	return api.Rat{Neg: !a.Neg, Num: a.Num, Den: a.Den}
}

func magnitude(n int64) uint64 {
	if n < 0 {
		// Negating after the conversion gives 2^63 for -2^63, which has no negation in int64.
		return -uint64(n)
	}
	return uint64(n)
}
