package nat

// commonDivisor works in the memory of a and b. It is Euclid's way; but most
// steps are found from the leading digits alone and carried out many at once
// (Lehmer's way), as every rational is brought to its lowest terms by it.
func commonDivisor(a, b limbs) limbs {
	if compare(a, b) < 0 {
		a, b = b, a
	}
	for len(a) > 2 && len(b) > 0 {
		m := stepsOf(leading(a, b))
		if m.none() {
			_, left := divide(a, b)
			a, b = b, left
		} else {
			a, b = m.apply(a, b)
		}
	}
	if len(b) == 0 {
		return a
	}
	return smallDivisor(a, b)
}

// smallDivisor needs a and b of at most two limbs: they fit into an int64.
func smallDivisor(a, b limbs) limbs {
	x, y := a.at(1)*base+a.at(0), b.at(1)*base+b.at(0)
	for y != 0 {
		x, y = y, x%y
	}
	return trim(limbs{x % base, x / base})
}

// leading answers the first 18 digits of a, and those of b that stand in the
// same places. It needs a of at least three limbs, and b at most a.
func leading(a, b limbs) (int64, int64) {
	scale := int64(1)
	for a[len(a)-1]*scale < base/10 {
		scale *= 10
	}
	return digitsFrom(a, len(a), scale), digitsFrom(b, len(a), scale)
}

func digitsFrom(l limbs, n int, scale int64) int64 {
	return (l.at(n-1)*base+l.at(n-2))*scale + l.at(n-3)/(base/scale)
}

// mix is some steps of Euclid's at once: of x and y they make a*x+b*y and
// c*x+d*y.
type mix struct {
	a, b, c, d int64
}

func (m mix) none() bool {
	return m.b == 0
}

// stepsOf takes the steps that are the same for all numbers that begin with the
// digits of x and y. Whatever stands behind these digits, the next quotient lies
// between the two that are held against each other. Each factor of the mix is
// then below the x that is left, and times that x it has at most 18 digits: so
// it is below base, and no product in apply is too great.
func stepsOf(x, y int64) mix {
	m := mix{a: 1, b: 0, c: 0, d: 1}
	for y+m.c != 0 && y+m.d != 0 {
		q := (x + m.a) / (y + m.c)
		if q != (x+m.b)/(y+m.d) {
			break
		}
		m = mix{a: m.c, b: m.d, c: m.a - q*m.c, d: m.b - q*m.d}
		x, y = y, x-q*y
	}
	return m
}

// apply works in the memory of a and b. It needs b at most a, and both made of
// the digits of which the steps were found: then what comes out is not below 0.
func (m mix) apply(a, b limbs) (limbs, limbs) {
	for len(b) < len(a) {
		b = append(b, 0)
	}
	var carryA, carryB int64
	for i := range a {
		x, y := a[i], b[i]
		a[i], carryA = split(m.a*x + m.b*y + carryA)
		b[i], carryB = split(m.c*x + m.d*y + carryB)
	}
	return trim(a), trim(b)
}
