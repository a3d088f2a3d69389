package rat

import (
	"strings"

	"tapewright/api"
	"tapewright/nat"
	"tapewright/whole"
)

// fraction is a rational: a whole number by a natural above 0, with no number
// but 1 that divides both; 0 is by 1. As its parts are right, the calls of nat
// and whole that are made with them tell no error.
type fraction struct {
	top, bottom string
}

func parse(s string) (fraction, error) {
	top, bottom, parted := strings.Cut(s, "/")
	if !parted {
		bottom = "1"
	}
	// A 0 by a number above 1 goes with the rest that can be shortened.
	if !whole.Right(top) || parted && !aboveOne(bottom) || gcd(size(top), bottom) != "1" {
		return fraction{}, fault{s, errForm}
	}
	return fraction{top: top, bottom: bottom}, nil
}

func parseBoth(a, b string) (fraction, fraction, error) {
	x, err := parse(a)
	if err != nil {
		return fraction{}, fraction{}, err
	}
	y, err := parse(b)
	return x, y, err
}

// made is the one fraction that p by q is.
func made(p, q string) (fraction, error) {
	for _, s := range []string{p, q} {
		if !whole.Right(s) {
			return fraction{}, fault{s, errForm}
		}
	}
	if q == "0" {
		return fraction{}, fault{q, errZero}
	}
	common := gcd(size(p), size(q))
	x := fraction{top: shortened(p, common), bottom: shortened(size(q), common)}
	if below(q) {
		return negated(x), nil
	}
	return x, nil
}

func (x fraction) text() string {
	if x.bottom == "1" {
		return x.top
	}
	return x.top + "/" + x.bottom
}

func negated(x fraction) fraction {
	top, _ := whole.Neg(x.top)
	return fraction{top: top, bottom: x.bottom}
}

// sum divides by what the bottoms share ahead of multiplying, so that no
// number gets longer than it must: nothing else could divide the sum's top
// along with its bottom.
func sum(x, y fraction) fraction {
	shared := gcd(x.bottom, y.bottom)
	own := shortened(x.bottom, shared)
	top := add(multiply(x.top, shortened(y.bottom, shared)), multiply(y.top, own))
	common := gcd(size(top), shared)
	return fraction{top: shortened(top, common), bottom: multiply(own, shortened(y.bottom, common))}
}

func difference(x, y fraction) fraction { return sum(x, negated(y)) }

// product divides crosswise ahead of multiplying, for the same reason as sum:
// within x and within y nothing is left to divide by.
func product(x, y fraction) fraction {
	falling := gcd(size(x.top), y.bottom)
	rising := gcd(size(y.top), x.bottom)
	return fraction{
		top:    multiply(shortened(x.top, falling), shortened(y.top, rising)),
		bottom: multiply(shortened(x.bottom, rising), shortened(y.bottom, falling)),
	}
}

func quotient(x, y fraction) (fraction, error) {
	if y.top == "0" {
		return fraction{}, fault{y.top, errZero}
	}
	turned := fraction{top: y.bottom, bottom: size(y.top)}
	if below(y.top) {
		turned = negated(turned)
	}
	return product(x, turned), nil
}

// raised needs no dividing: powers share no factor where their roots share none.
func raised(x fraction, n int) (fraction, error) {
	if n < 0 || n > api.MaxPower {
		return fraction{}, powerFault{n}
	}
	power := fraction{top: "1", bottom: "1"}
	for range n {
		power.top = multiply(power.top, x.top)
		power.bottom = multiply(power.bottom, x.bottom)
	}
	return power, nil
}

func compare(x, y fraction) int {
	c, _ := whole.Compare(multiply(x.top, y.bottom), multiply(y.top, x.bottom))
	return c
}

// aboveOne is false of a text that is no natural, as nat.Compare answers 0 there.
func aboveOne(s string) bool {
	c, _ := nat.Compare(s, "1")
	return c > 0
}

func below(p string) bool { return strings.HasPrefix(p, "-") }

// size is how far a whole number is from 0, a natural.
func size(p string) string { return strings.TrimPrefix(p, "-") }

func gcd(a, b string) string {
	common, _ := nat.Gcd(a, b)
	return common
}

func add(a, b string) string {
	total, _ := whole.Add(a, b)
	return total
}

func multiply(a, b string) string {
	total, _ := whole.Mul(a, b)
	return total
}

// shortened is a whole number by a natural that divides it.
func shortened(p, common string) string {
	part, _, _ := nat.Div(size(p), common)
	if below(p) {
		return "-" + part
	}
	return part
}
