package rational

// commonDivisor returns the greatest common divisor of x and y, which are not both 0.
func commonDivisor(x, y natural) natural {
	if compare(x, y) < 0 {
		x, y = y, x
	}
	for len(y) > 2 {
		x, y = euclidSteps(x, y)
	}
	if len(y) == 0 {
		return x
	}
	_, rest := divide(x, y)
	// Two limbs always fit in 64 bits.
	greater, _ := y.word()
	lesser, _ := rest.word()
	return naturalOf(commonDivisorOfWords(greater, lesser))
}

func commonDivisorOfWords(x, y uint64) uint64 {
	for y != 0 {
		x, y = y, x%y
	}
	return x
}

// euclidSteps makes one or more steps of Euclid's algorithm with x >= y, where y has at least two limbs. Following Lehmer, it takes many steps at once if the leading limbs determine their quotients, because a division of long numbers for each single step would be slow.
func euclidSteps(x, y natural) (natural, natural) {
	if len(x) == len(y) {
		s := leadingSteps(leadingLimbs(x), leadingLimbs(y))
		if s.b != 0 {
			return combine(s.a, x, s.b, y), combine(s.c, x, s.d, y)
		}
	}
	_, rest := divide(x, y)
	return y, rest
}

func leadingLimbs(x natural) int64 {
	n := len(x)
	return int64(x[n-1])*base + int64(x[n-2])
}

// steps turns x and y into a x + b y and c x + d y. The magnitudes are less than base, and a and b have different signs, as have c and d.
type steps struct {
	a, b, c, d int64
}

// leadingSteps returns the steps that all numbers with the given leading limbs have in common. The quotient of such numbers lies between the two that are compared, so it is known where these agree.
//
// No coefficient reaches base, so that nothing overflows: since the quotients agree, the magnitudes of c and d are less than the next x, and the next x times either is at most the first x or y, which are less than base * base.
func leadingSteps(x, y int64) steps {
	s := steps{a: 1, d: 1}
	for y+s.c != 0 && y+s.d != 0 {
		quotient := (x + s.a) / (y + s.c)
		if quotient != (x+s.b)/(y+s.d) {
			break
		}
		s = steps{a: s.c, b: s.d, c: s.a - quotient*s.c, d: s.b - quotient*s.d}
		x, y = y, x-quotient*y
	}
	return s
}

// combine returns a x + b y, which is not negative and not longer than x and y, two numbers of the same length.
func combine(a int64, x natural, b int64, y natural) natural {
	result := make(natural, len(x))
	carry := int64(0)
	for i := range len(x) {
		carry += a*int64(x[i]) + b*int64(y[i])
		limb := carry % base
		carry /= base
		if limb < 0 {
			limb += base
			carry--
		}
		result[i] = uint32(limb)
	}
	return trim(result)
}
