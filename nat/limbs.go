package nat

import "cmp"

// Nine digits a limb: a product of two limbs, with a limb and a carry added,
// still fits into an int64, and texts turn into limbs without any division of
// great numbers.
const (
	limbDigits       = 9
	base       int64 = 1_000_000_000
)

// limbs is a natural, the lowest limb first. The topmost limb is not 0, so that
// each natural has one form; 0 has no limb.
type limbs []int64

// parse needs a natural.
func parse(s string) limbs {
	l := make(limbs, 0, len(s)/limbDigits+1)
	for end := len(s); end > 0; end -= limbDigits {
		l = append(l, parseLimb(s[max(end-limbDigits, 0):end]))
	}
	return trim(l)
}

func parseLimb(s string) int64 {
	var n int64
	for i := range len(s) {
		n = n*10 + int64(s[i]-'0')
	}
	return n
}

func (l limbs) text() string {
	if len(l) == 0 {
		return "0"
	}
	out := make([]byte, len(l)*limbDigits)
	for i, limb := range l {
		end := len(out) - i*limbDigits
		writeLimb(out[end-limbDigits:end], limb)
	}
	first := 0
	for out[first] == '0' {
		first++
	}
	return string(out[first:])
}

func writeLimb(out []byte, limb int64) {
	for i := len(out) - 1; i >= 0; i-- {
		out[i] = byte('0' + limb%10)
		limb /= 10
	}
}

// trim keeps the form of limbs: no 0 at the top.
func trim(l limbs) limbs {
	n := len(l)
	for n > 0 && l[n-1] == 0 {
		n--
	}
	return l[:n]
}

// at lets a shorter number be read along with a longer one.
func (l limbs) at(i int) int64 {
	if i < len(l) {
		return l[i]
	}
	return 0
}

func compare(a, b limbs) int {
	if c := cmp.Compare(len(a), len(b)); c != 0 {
		return c
	}
	for i := len(a) - 1; i >= 0; i-- {
		if c := cmp.Compare(a[i], b[i]); c != 0 {
			return c
		}
	}
	return 0
}

func add(a, b limbs) limbs {
	n := max(len(a), len(b))
	sum := make(limbs, n+1)
	var carry int64
	for i := range n {
		sum[i], carry = split(a.at(i) + b.at(i) + carry)
	}
	sum[n] = carry
	return trim(sum)
}

// subtract needs b to be at most a.
func subtract(a, b limbs) limbs {
	rest := make(limbs, len(a))
	var carry int64
	for i := range a {
		rest[i], carry = split(a[i] - b.at(i) + carry)
	}
	return trim(rest)
}

func multiply(a, b limbs) limbs {
	product := make(limbs, len(a)+len(b))
	for i, x := range a {
		var carry int64
		for j, y := range b {
			n := product[i+j] + x*y + carry
			product[i+j], carry = n%base, n/base
		}
		product[i+len(b)] = carry
	}
	return trim(product)
}

// split parts n into a limb and a carry; the limb is from 0 on even if n is
// below 0, so that a carry may be a loan.
func split(n int64) (limb int64, carry int64) {
	limb, carry = n%base, n/base
	if limb < 0 {
		return limb + base, carry - 1
	}
	return limb, carry
}

// timesLimb answers one limb more than a has, 0 or not, as a long division
// wants room at the top.
func timesLimb(a limbs, factor int64) limbs {
	product := make(limbs, len(a)+1)
	var carry int64
	for i, x := range a {
		product[i], carry = split(x*factor + carry)
	}
	product[len(a)] = carry
	return product
}
