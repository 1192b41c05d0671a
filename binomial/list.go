package binomial

import (
	"amortcost/api"
	"amortcost/rational"
)

// trim returns p without the zeros at its end, in the same memory.
func trim(p []api.Rat) []api.Rat {
	for len(p) > 0 && rational.Sign(p[len(p)-1]) == 0 {
		p = p[:len(p)-1]
	}
	return p
}

// combine returns f of the elements at each position of two lists. The shorter list is continued with zero values; that of api.Rat denotes 0.
func combine[T any](p, q []T, f func(a, b T) T) []T {
	combined := make([]T, max(len(p), len(q)))
	for i := range combined {
		var a, b T
		if i < len(p) {
			a = p[i]
		}
		if i < len(q) {
			b = q[i]
		}
		combined[i] = f(a, b)
	}
	return combined
}

func scalarProduct(p, q []api.Rat) api.Rat {
	return rational.Sum(combine(p, q, rational.Mul)...)
}

// chooses returns C(n, 0), C(n, 1), .. For a negative n they are the values of these polynomials.
func chooses(n int64, count int) []api.Rat {
	list := make([]api.Rat, count)
	value := rational.FromInt(1)
	for k := range count {
		list[k] = value
		value = rational.Mul(value, rational.Small(n-int64(k), int64(k)+1))
	}
	return list
}

// nest returns the sum p[0] + x0 (p[1] + x1 (p[2] + ..)) in a basis whose first element is 1. The factor xk times element j of the basis is this element times stay plus the next one times rise, as step(k, j) says.
func nest(p []api.Rat, step func(k, j int64) (stay, rise api.Rat)) []api.Rat {
	var sum []api.Rat
	for k := len(p) - 1; k >= 0; k-- {
		next := make([]api.Rat, len(sum)+1)
		next[0] = p[k]
		for j, a := range sum {
			stay, rise := step(int64(k), int64(j))
			next[j] = rational.Add(next[j], rational.Mul(stay, a))
			next[j+1] = rational.Mul(rise, a)
		}
		sum = next
	}
	return sum
}

// scaled denotes the elements of list divided by scale, which is not 0.
//
// Additions of fractions with long denominators are slow, because each of them looks for a common divisor. So the functions with many additions compute with integers, and divide at the end.
type scaled struct {
	list  []api.Rat
	scale api.Rat
}

// scaleToIntegers multiplies a list by the least common multiple of its denominators.
func scaleToIntegers(p []api.Rat) scaled {
	scale := rational.FromInt(1)
	for _, a := range p {
		// The denominator that is left over is what the scale lacks.
		lack := rational.Mul(a, scale).Den
		scale = rational.Mul(scale, api.Rat{Num: lack, Den: []uint32{1}})
	}
	return scaled{multiplyAll(p, scale), scale}
}

func multiplyAll(p []api.Rat, factor api.Rat) []api.Rat {
	list := make([]api.Rat, len(p))
	for k := range list {
		list[k] = rational.Mul(p[k], factor)
	}
	return list
}

func (s scaled) canonical() []api.Rat {
	inverse, _ := rational.Div(rational.FromInt(1), s.scale)
	return trim(multiplyAll(s.list, inverse))
}

// transform returns the canonical list of f(p), where f is linear.
func transform(p []api.Rat, f func([]api.Rat) []api.Rat) ([]api.Rat, bool) {
	if len(p) > maxElements {
		return nil, false
	}
	s := scaleToIntegers(p)
	return scaled{f(s.list), s.scale}.canonical(), true
}
