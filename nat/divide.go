package nat

import "slices"

// divide needs b above 0.
func divide(a, b limbs) (quotient, left limbs) {
	if compare(a, b) < 0 {
		return nil, slices.Clone(a)
	}
	if len(b) == 1 {
		quotient, rest := divideByLimb(a, b[0])
		return quotient, trim(limbs{rest})
	}
	return divideLong(a, b)
}

func divideByLimb(a limbs, divisor int64) (quotient limbs, left int64) {
	quotient = make(limbs, len(a))
	for i := len(a) - 1; i >= 0; i-- {
		n := left*base + a[i]
		quotient[i], left = n/divisor, n%divisor
	}
	return trim(quotient), left
}

// divideLong needs b of at least two limbs, and at most a. Both are scaled, so
// that b's top limb is at least half of base: only then is a guess from the top
// limbs never more than one too great.
func divideLong(a, b limbs) (quotient, left limbs) {
	scale := base / (b[len(b)-1] + 1)
	rest := timesLimb(a, scale)
	divisor := trim(timesLimb(b, scale))
	quotient = make(limbs, len(a)-len(b)+1)
	for i := len(a) - len(b); i >= 0; i-- {
		part := rest[i : i+len(b)+1]
		guess := guessLimb(part, divisor)
		if takeOff(part, divisor, guess) {
			guess--
			putBack(part, divisor)
		}
		quotient[i] = guess
	}
	left, _ = divideByLimb(trim(rest), scale)
	return trim(quotient), left
}

// guessLimb says how often the divisor goes in a part that is one limb longer,
// or one more than that.
func guessLimb(part, divisor limbs) int64 {
	n := len(divisor)
	top := part[n]*base + part[n-1]
	guess, left := top/divisor[n-1], top%divisor[n-1]
	for left < base && (guess >= base || guess*divisor[n-2] > left*base+part[n-2]) {
		guess--
		left += divisor[n-1]
	}
	return guess
}

// takeOff takes the divisor off the part, so many times, and says whether it
// was once too often: the part is then short of a 1 above its top.
func takeOff(part, divisor limbs, times int64) bool {
	n := len(divisor)
	var carry int64
	for i, x := range divisor {
		part[i], carry = split(part[i] - x*times + carry)
	}
	part[n], carry = split(part[n] + carry)
	return carry < 0
}

// putBack undoes takeOff once: the carry out of the top is what the part was
// short of.
func putBack(part, divisor limbs) {
	n := len(divisor)
	var carry int64
	for i, x := range divisor {
		part[i], carry = split(part[i] + x + carry)
	}
	part[n], _ = split(part[n] + carry)
}
