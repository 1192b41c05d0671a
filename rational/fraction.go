package rational

import "amortcost/api"

// fraction is a number whose denominator is not 0. Numerator and denominator may have common divisors.
type fraction struct {
	negative bool
	num, den natural
}

// read copies the limbs, so that no result shares memory with the argument.
func read(a api.Rat) fraction {
	f := fraction{a.Neg, normalize(a.Num), normalize(a.Den)}
	if len(f.den) == 0 {
		return fraction{den: natural{1}}
	}
	return f
}

func (f fraction) canonical() api.Rat {
	if len(f.num) == 0 {
		return zero()
	}
	common := commonDivisor(f.num, f.den)
	num, _ := divide(f.num, common)
	den, _ := divide(f.den, common)
	return api.Rat{Neg: f.negative, Num: num, Den: den}
}

// small is a number whose numerator and denominator have one limb each: a sum of two products of such limbs fits in 64 bits. Nearly all numbers of an analysis are small, and this way avoids most of the work with lists.
type small struct {
	num, den int64
}

func readSmall(a api.Rat) (small, bool) {
	if len(a.Num) == 0 || len(a.Den) == 0 {
		return small{0, 1}, true
	}
	if len(a.Num) > 1 || len(a.Den) > 1 || a.Num[0] >= base || a.Den[0] >= base {
		return small{}, false
	}
	x := small{int64(a.Num[0]), int64(a.Den[0])}
	if x.den == 0 {
		return small{0, 1}, true
	}
	if a.Neg {
		x.num = -x.num
	}
	return x, true
}

func readSmallPair(a, b api.Rat) (x, y small, ok bool) {
	x, first := readSmall(a)
	y, second := readSmall(b)
	return x, y, first && second
}
