// Package nat is layer 1: see shared/doc/01-nat.md.
package nat

import (
	"cmp"
	"strings"

	"tapewright/api"
)

// Right: is a text a natural?
func Right(s string) bool {
	if s == "" || s[0] == '0' && len(s) > 1 {
		return false
	}
	for i := range len(s) {
		if s[i] < '0' || s[i] > '9' {
			return false
		}
	}
	return true
}

// Add: the sum.
func Add(a string, b string) (string, api.Errno) {
	if !bothRight(a, b) {
		return "", api.ErrForm
	}
	return add(parse(a), parse(b)).text(), api.OK
}

// Sub: the difference.
func Sub(a string, b string) (string, api.Errno) {
	if !bothRight(a, b) {
		return "", api.ErrForm
	}
	if compareTexts(a, b) < 0 {
		return "", api.ErrArg
	}
	return subtract(parse(a), parse(b)).text(), api.OK
}

// Mul: the product.
func Mul(a string, b string) (string, api.Errno) {
	if !bothRight(a, b) {
		return "", api.ErrForm
	}
	return multiply(parse(a), parse(b)).text(), api.OK
}

// Div: the quotient, and what is left over.
func Div(a string, b string) (string, string, api.Errno) {
	if !bothRight(a, b) {
		return "", "", api.ErrForm
	}
	if b == "0" {
		return "", "", api.ErrZero
	}
	quotient, left := divide(parse(a), parse(b))
	return quotient.text(), left.text(), api.OK
}

// Gcd: the greatest number that divides both.
func Gcd(a string, b string) (string, api.Errno) {
	if !bothRight(a, b) {
		return "", api.ErrForm
	}
	return commonDivisor(parse(a), parse(b)).text(), api.OK
}

// Compare: -1, 0, 1.
func Compare(a string, b string) (int, api.Errno) {
	if !bothRight(a, b) {
		return 0, api.ErrForm
	}
	return compareTexts(a, b), api.OK
}

func bothRight(a, b string) bool {
	return Right(a) && Right(b)
}

// compareTexts needs naturals: with no noughts ahead, the longer text is the
// greater number.
func compareTexts(a, b string) int {
	if c := cmp.Compare(len(a), len(b)); c != 0 {
		return c
	}
	return strings.Compare(a, b)
}
