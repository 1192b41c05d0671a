package binomial

import (
	"amortcost/api"
	"amortcost/rational"
)

// row contains the integers that belong to the elements of a list.
type row [maxElements]int64

func pascalRow(n int) row {
	var r row
	r[0] = 1
	for k := range n {
		r[k+1] = r[k] * int64(n-k) / int64(k+1)
	}
	return r
}

// productRow returns the list of C(n, a) * C(n, b), where a + b is less than maxElements. All its elements are less than 2^36.
func productRow(a, b int) row {
	var r row
	subsets := pascalRow(a)
	for k := max(a, b); k <= a+b; k++ {
		// This is k! / ((k - a)! (k - b)! (a + b - k)!): k things are covered by a of them and b of them, of which k - b are among the a only.
		r[k] = pascalRow(k)[a] * subsets[k-b]
	}
	return r
}

// multiplyIntegers returns the product of two lists that are not empty and not too long.
func multiplyIntegers(p, q []api.Rat) []api.Rat {
	product := make([]api.Rat, len(p)+len(q)-1)
	for a := range p {
		for b := range q {
			factor := rational.Mul(p[a], q[b])
			coefficients := productRow(a, b)
			for k := max(a, b); k <= a+b; k++ {
				term := rational.Mul(factor, rational.FromInt(coefficients[k]))
				product[k] = rational.Add(product[k], term)
			}
		}
	}
	return product
}
