package rational

import "cmp"

const (
	base       = 1000000000
	limbDigits = 9
)

// natural is a natural number: limbs below base, least significant first, without zeros at the end. No function changes a natural that it is given, so naturals may share memory with each other until they become a result.
type natural []uint32

// denotesZero needs no carries: limbs are not negative, so that no sum of them cancels.
func denotesZero(list []uint32) bool {
	for _, limb := range list {
		if limb != 0 {
			return false
		}
	}
	return true
}

// normalize returns in new memory what a list of any limbs denotes.
func normalize(list []uint32) natural {
	x := make(natural, len(list)+1)
	carry := uint64(0)
	for i := range len(list) {
		carry += uint64(list[i])
		x[i] = uint32(carry % base)
		carry /= base
	}
	x[len(list)] = uint32(carry)
	return trim(x)
}

func trim(x natural) natural {
	for len(x) > 0 && x[len(x)-1] == 0 {
		x = x[:len(x)-1]
	}
	return x
}

func naturalOf(n uint64) natural {
	var x natural
	for ; n > 0; n /= base {
		x = append(x, uint32(n%base))
	}
	return x
}

// word returns x and true if x fits in 64 bits.
func (x natural) word() (uint64, bool) {
	n := uint64(0)
	for i := len(x) - 1; i >= 0; i-- {
		limb := uint64(x[i])
		if n > (1<<64-1-limb)/base {
			return 0, false
		}
		n = n*base + limb
	}
	return n, true
}

func compare(x, y natural) int {
	if len(x) != len(y) {
		return cmp.Compare(len(x), len(y))
	}
	for i := len(x) - 1; i >= 0; i-- {
		if x[i] != y[i] {
			return cmp.Compare(x[i], y[i])
		}
	}
	return 0
}

func add(x, y natural) natural {
	if len(x) < len(y) {
		x, y = y, x
	}
	sum := make(natural, len(x)+1)
	carry := uint32(0)
	for i := range len(x) {
		// Two limbs and a carry are less than 2^32.
		limb := x[i] + carry
		if i < len(y) {
			limb += y[i]
		}
		sum[i] = limb % base
		carry = limb / base
	}
	sum[len(x)] = carry
	return trim(sum)
}

// subtract returns x - y, where x is at least y.
func subtract(x, y natural) natural {
	difference := make(natural, len(x))
	borrow := uint32(0)
	for i := range len(x) {
		taken := borrow
		if i < len(y) {
			taken += y[i]
		}
		borrow = 0
		if x[i] < taken {
			borrow = 1
		}
		difference[i] = x[i] + borrow*base - taken
	}
	return trim(difference)
}

func multiply(x, y natural) natural {
	product := make(natural, len(x)+len(y))
	for i := range len(x) {
		carry := uint64(0)
		for j := range len(y) {
			carry += uint64(product[i+j]) + uint64(x[i])*uint64(y[j])
			product[i+j] = uint32(carry % base)
			carry /= base
		}
		product[i+len(y)] = uint32(carry)
	}
	return trim(product)
}

// multiplyByLimb returns len(x) + 1 limbs, also if the last ones are 0.
func multiplyByLimb(x natural, limb uint32) natural {
	product := make(natural, len(x)+1)
	carry := uint64(0)
	for i := range len(x) {
		carry += uint64(x[i]) * uint64(limb)
		product[i] = uint32(carry % base)
		carry /= base
	}
	product[len(x)] = uint32(carry)
	return product
}

func divideByLimb(x natural, limb uint32) (quotient natural, rest uint32) {
	quotient = make(natural, len(x))
	carry := uint64(0)
	for i := len(x) - 1; i >= 0; i-- {
		carry = carry*base + uint64(x[i])
		quotient[i] = uint32(carry / uint64(limb))
		carry %= uint64(limb)
	}
	return trim(quotient), uint32(carry)
}

// divide returns the quotient, in new memory, and the rest of x and y, where y is not 0.
func divide(x, y natural) (quotient, rest natural) {
	if compare(x, y) < 0 {
		return nil, x
	}
	if len(y) == 1 {
		quotient, limb := divideByLimb(x, y[0])
		return quotient, naturalOf(uint64(limb))
	}
	// With this factor the leading limb of the divisor is at least base / 2, so that the guesses of takeMultiple are at most 2 too great.
	factor := base / (y[len(y)-1] + 1)
	remaining := multiplyByLimb(x, factor)
	divisor := trim(multiplyByLimb(y, factor))
	quotient = make(natural, len(x)-len(y)+1)
	for i := len(quotient) - 1; i >= 0; i-- {
		quotient[i] = takeMultiple(remaining[i:i+len(divisor)+1], divisor)
	}
	rest, _ = divideByLimb(trim(remaining), factor)
	return trim(quotient), rest
}

// takeMultiple replaces window by its rest, and returns its quotient. The quotient is less than base, the divisor has at least two limbs, and window has one limb more.
func takeMultiple(window, divisor natural) uint32 {
	n := len(divisor)
	first, second := uint64(divisor[n-1]), uint64(divisor[n-2])
	top := uint64(window[n])*base + uint64(window[n-1])
	guess := min(top/first, base-1)
	rest := top - guess*first
	for rest < base && guess*second > rest*base+uint64(window[n-2]) {
		guess--
		rest += first
	}
	borrow := uint64(0)
	for i := range n {
		borrow += guess * uint64(divisor[i])
		taken := uint32(borrow % base)
		borrow /= base
		if window[i] < taken {
			window[i] += base
			borrow++
		}
		window[i] -= taken
	}
	tooMuch := uint64(window[n]) < borrow
	window[n] = 0
	if tooMuch {
		guess--
		giveBack(window, divisor)
	}
	return uint32(guess)
}

// giveBack adds the divisor. The carry out of its last limb cancels the borrow that made window negative.
func giveBack(window, divisor natural) {
	carry := uint32(0)
	for i := range len(divisor) {
		limb := window[i] + divisor[i] + carry
		window[i] = limb % base
		carry = limb / base
	}
}
