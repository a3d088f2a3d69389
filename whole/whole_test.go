package whole_test

import (
	"math/big"
	"slices"
	"strings"
	"testing"

	"tapewright/api"
	"tapewright/whole"
)

// wrongTexts are no whole numbers.
func wrongTexts() []string {
	return []string{
		"", "-", "--", "-0", "-00", "00", "01", "-01", "007", "-007", "+1", "+", "+0", "-+1", "+-1",
		"--2", "---2", "1-", "-1-", "0-", "0-1", "5-3", "- 1", " -1", "-1 ", " 1", "1 ", "-1\n", "\t1", " ",
		"a", "-a", "-1a", "1a", "-0x1", "1e3", "-1e3", "1.0", "-1.5", "1,000", "1_000", "1/2", "-1/2", "-/", "-:",
		"\x00", "-\x00", "-1\x00", "\xff", "-\xff", "\u22121", "\u20131", "\u0661", "-\u0661", "-\uff11",
		"-0" + strings.Repeat("1", 100), "-" + strings.Repeat("9", 100) + "x", "-" + strings.Repeat("0", 18),
		strings.Repeat("1", 40) + "-" + strings.Repeat("1", 40),
	}
}

// bothSides has each natural and what is as far below 0.
func bothSides(naturals []string) []string {
	var list []string
	for _, s := range naturals {
		list = append(list, s)
		if s != "0" {
			list = append(list, "-"+s)
		}
	}
	return list
}

// smallWholes are those from -12 to 12.
func smallWholes() []string {
	return bothSides(strings.Fields("0 1 2 3 4 5 6 7 8 9 10 11 12"))
}

// edgeWholes stand around 0, and around the places where a number gets a digit
// or a machine word more.
func edgeWholes() []string {
	naturals := []string{"13", "98", "101", "999999998", "4294967295", "4294967296", "9223372036854775807",
		"9223372036854775808", "9223372036854775809", "18446744073709551615", "18446744073709551616",
		"123456789012345678901234567890", "987654321098765432109876543210"}
	for _, n := range []int{2, 8, 9, 10, 18, 19, 27, 50, 100} {
		naturals = append(naturals,
			strings.Repeat("9", n),
			"1"+strings.Repeat("0", n),
			"1"+strings.Repeat("0", n-1)+"1")
	}
	return append(smallWholes(), bothSides(naturals)...)
}

func toBig(t *testing.T, s string) *big.Int {
	t.Helper()
	n, ok := new(big.Int).SetString(s, 10)
	if !ok {
		t.Fatalf("%q is no number", s)
	}
	return n
}

// right gives the number of an answer, and fails the test at an error.
func right(t *testing.T, s string, e api.Errno) string {
	t.Helper()
	if e != api.OK || !whole.Right(s) {
		t.Fatalf("%.60q, error %d", s, e)
	}
	return s
}

// P2.1: which texts are whole numbers.
func TestRight(t *testing.T) {
	for _, s := range edgeWholes() {
		if !whole.Right(s) {
			t.Errorf("Right of %q: false", s)
		}
	}
	for _, s := range wrongTexts() {
		if whole.Right(s) {
			t.Errorf("Right of %q: true", s)
		}
	}
	if long := "-" + strings.Repeat("9", 1<<20); !whole.Right(long) || whole.Right(long+"-") || whole.Right("-"+long) {
		t.Error("Right of a million digits")
	}
}

// P2.1: a - stands only ahead, and no byte but a - stands ahead of digits.
func TestRightOfEachByte(t *testing.T) {
	for c := range 256 {
		digit := '0' <= c && c <= '9'
		b := byte(c)
		for _, k := range []struct {
			text  []byte
			right bool
		}{
			{[]byte{b}, digit},
			{[]byte{b, '5'}, digit && c != '0' || c == '-'},
			{[]byte{'5', b}, digit},
			{[]byte{'-', b}, digit && c != '0'},
			{[]byte{'-', '5', b, '5'}, digit},
		} {
			if whole.Right(string(k.text)) != k.right {
				t.Errorf("Right of %q is not %t", k.text, k.right)
			}
		}
	}
}

// P2.1, P1, R2: of other texts all else tells ErrForm, and nothing beside it.
func TestWrongTexts(t *testing.T) {
	for _, s := range wrongTexts() {
		if n, e := whole.Sign(s); n != 0 || e != api.ErrForm {
			t.Errorf("Sign(%q): %d, %d", s, n, e)
		}
		if n, e := whole.Neg(s); n != "" || e != api.ErrForm {
			t.Errorf("Neg(%q): %q, %d", s, n, e)
		}
	}
	check := func(a, b string) {
		t.Helper()
		if s, e := whole.Add(a, b); s != "" || e != api.ErrForm {
			t.Errorf("Add(%q, %q): %q, %d", a, b, s, e)
		}
		if s, e := whole.Sub(a, b); s != "" || e != api.ErrForm {
			t.Errorf("Sub(%q, %q): %q, %d", a, b, s, e)
		}
		if s, e := whole.Mul(a, b); s != "" || e != api.ErrForm {
			t.Errorf("Mul(%q, %q): %q, %d", a, b, s, e)
		}
		if c, e := whole.Compare(a, b); c != 0 || e != api.ErrForm {
			t.Errorf("Compare(%q, %q): %d, %d", a, b, c, e)
		}
	}
	for _, wrong := range wrongTexts() {
		for _, other := range slices.Concat([]string{"0", "1", "-1", "5", "-123456789012345678901234567890"}, wrongTexts()) {
			check(wrong, other)
			check(other, wrong)
		}
	}
}

// P2.1: the document's example, and cases that can be told by hand.
func TestByHand(t *testing.T) {
	for _, c := range []struct {
		a, b, sum, difference, product string
		compared                       int
	}{
		{"3", "5", "8", "-2", "15", -1},
		{"5", "3", "8", "2", "15", 1},
		{"-3", "5", "2", "-8", "-15", -1},
		{"3", "-5", "-2", "8", "-15", 1},
		{"-3", "-5", "-8", "2", "15", 1},
		{"-5", "-3", "-8", "-2", "15", -1},
		{"0", "0", "0", "0", "0", 0},
		{"0", "-1", "-1", "1", "0", 1},
		{"-1", "0", "-1", "-1", "0", -1},
		{"4", "4", "8", "0", "16", 0},
		{"-4", "-4", "-8", "0", "16", 0},
		{"-4", "4", "0", "-8", "-16", -1},
		{"-9", "10", "1", "-19", "-90", -1},
		{"-10", "-9", "-19", "-1", "90", -1},
		{"100", "-1", "99", "101", "-100", 1},
		{"-99999999999", "99999999999", "0", "-199999999998", "-9999999999800000000001", -1},
	} {
		sum, sumErr := whole.Add(c.a, c.b)
		difference, differenceErr := whole.Sub(c.a, c.b)
		product, productErr := whole.Mul(c.a, c.b)
		compared, comparedErr := whole.Compare(c.a, c.b)
		if sum != c.sum || sumErr != api.OK {
			t.Errorf("Add(%s, %s): %q, %d", c.a, c.b, sum, sumErr)
		}
		if difference != c.difference || differenceErr != api.OK {
			t.Errorf("Sub(%s, %s): %q, %d", c.a, c.b, difference, differenceErr)
		}
		if product != c.product || productErr != api.OK {
			t.Errorf("Mul(%s, %s): %q, %d", c.a, c.b, product, productErr)
		}
		if compared != c.compared || comparedErr != api.OK {
			t.Errorf("Compare(%s, %s): %d, %d", c.a, c.b, compared, comparedErr)
		}
	}
}

// P2.1: the sign, and what is taken off 0.
func TestSignAndNeg(t *testing.T) {
	for _, c := range []struct {
		s, negated string
		sign       int
	}{
		{"0", "0", 0},
		{"1", "-1", 1},
		{"-1", "1", -1},
		{"10", "-10", 1},
		{"-10", "10", -1},
		{"18446744073709551616", "-18446744073709551616", 1},
		{"-18446744073709551616", "18446744073709551616", -1},
	} {
		if n, e := whole.Sign(c.s); n != c.sign || e != api.OK {
			t.Errorf("Sign(%s): %d, %d", c.s, n, e)
		}
		if n, e := whole.Neg(c.s); n != c.negated || e != api.OK {
			t.Errorf("Neg(%s): %q, %d", c.s, n, e)
		}
	}
}

// P2.1: all of it, held against math/big.
func TestAgainstBig(t *testing.T) {
	for _, s := range edgeWholes() {
		checkAlone(t, s, toBig(t, s))
		for _, u := range edgeWholes() {
			checkPair(t, s, u, toBig(t, s), toBig(t, u))
		}
	}
}

func checkAlone(t *testing.T, s string, a *big.Int) {
	t.Helper()
	if got, e := whole.Sign(s); e != api.OK || got != a.Sign() {
		t.Fatalf("Sign(%.60s): %d, %d", s, got, e)
	}
	if got, e := whole.Neg(s); e != api.OK || got != new(big.Int).Neg(a).String() {
		t.Fatalf("Neg(%.60s): %.60s, %d", s, got, e)
	}
}

func checkPair(t *testing.T, s, u string, a, b *big.Int) {
	t.Helper()
	if got, e := whole.Add(s, u); e != api.OK || got != new(big.Int).Add(a, b).String() {
		t.Fatalf("Add(%.60s, %.60s): %.60s, %d", s, u, got, e)
	}
	if got, e := whole.Sub(s, u); e != api.OK || got != new(big.Int).Sub(a, b).String() {
		t.Fatalf("Sub(%.60s, %.60s): %.60s, %d", s, u, got, e)
	}
	if got, e := whole.Mul(s, u); e != api.OK || got != new(big.Int).Mul(a, b).String() {
		t.Fatalf("Mul(%.60s, %.60s): %.60s, %d", s, u, got, e)
	}
	if got, e := whole.Compare(s, u); e != api.OK || got != a.Cmp(b) {
		t.Fatalf("Compare(%.60s, %.60s): %d, %d", s, u, got, e)
	}
}

// calls are the layer's, of right numbers alone.
type calls struct {
	t *testing.T
}

func (c calls) neg(a string) string {
	c.t.Helper()
	s, e := whole.Neg(a)
	return right(c.t, s, e)
}

func (c calls) add(a, b string) string {
	c.t.Helper()
	s, e := whole.Add(a, b)
	return right(c.t, s, e)
}

func (c calls) sub(a, b string) string {
	c.t.Helper()
	s, e := whole.Sub(a, b)
	return right(c.t, s, e)
}

func (c calls) mul(a, b string) string {
	c.t.Helper()
	s, e := whole.Mul(a, b)
	return right(c.t, s, e)
}

// P2.2: the laws of sums and products of one number and of two.
func TestLawsOfTwo(t *testing.T) {
	is := calls{t}
	for _, a := range edgeWholes() {
		for _, b := range edgeWholes() {
			for i, law := range [][2]string{
				{is.add(a, b), is.add(b, a)},
				{is.mul(a, b), is.mul(b, a)},
				{is.sub(is.add(a, b), b), a},
				{is.sub(a, b), is.add(a, is.neg(b))},
				{is.sub(a, b), is.neg(is.sub(b, a))},
				{is.mul(is.neg(a), b), is.neg(is.mul(a, b))},
				{is.mul(is.neg(a), is.neg(b)), is.mul(a, b)},
				{is.neg(is.neg(a)), a},
				{is.add(a, is.neg(a)), "0"},
				{is.sub("0", a), is.neg(a)},
				{is.add(a, "0"), a},
				{is.mul(a, "1"), a},
				{is.mul(a, "-1"), is.neg(a)},
				{is.mul(a, "0"), "0"},
			} {
				if law[0] != law[1] {
					t.Fatalf("law %d of %s, %s: %s, %s", i, a, b, law[0], law[1])
				}
			}
		}
	}
}

// P2.2: the laws of sums and products of three.
func TestLawsOfThree(t *testing.T) {
	is := calls{t}
	some := bothSides([]string{"0", "1", "7", "10", "999999999", "1000000000", "18446744073709551616", "123456789012345678901234567890"})
	for _, a := range some {
		for _, b := range some {
			for _, c := range some {
				for i, law := range [][2]string{
					{is.add(is.add(a, b), c), is.add(a, is.add(b, c))},
					{is.mul(is.mul(a, b), c), is.mul(a, is.mul(b, c))},
					{is.mul(is.add(a, b), c), is.add(is.mul(a, c), is.mul(b, c))},
					{is.mul(is.sub(a, b), c), is.sub(is.mul(a, c), is.mul(b, c))},
				} {
					if law[0] != law[1] {
						t.Fatalf("law %d of %s, %s, %s: %s, %s", i, a, b, c, law[0], law[1])
					}
				}
			}
		}
	}
}

// P2.2: less is so just if the difference is below 0; equal and more likewise.
func TestCompareIsTheSignOfTheDifference(t *testing.T) {
	is := calls{t}
	for _, a := range edgeWholes() {
		for _, b := range edgeWholes() {
			compared, e := whole.Compare(a, b)
			sign, signErr := whole.Sign(is.sub(a, b))
			if compared != sign || e != api.OK || signErr != api.OK {
				t.Fatalf("Compare(%s, %s): %d, %d; the difference's sign: %d, %d", a, b, compared, e, sign, signErr)
			}
		}
	}
}

// P2.1, P1: numbers of as many digits as are promised (2^16).
func TestManyDigits(t *testing.T) {
	const most = 1 << 16
	long := strings.Repeat("7318204659", most/10)
	half := strings.Repeat("9042", most/8)
	for _, s := range []string{long, "-" + long} {
		checkAlone(t, s, toBig(t, s))
	}
	for _, s := range []string{half, "-" + half} {
		for _, u := range []string{half, "-" + half, half[4:] + "1", "-" + half[8:]} {
			checkPair(t, s, u, toBig(t, s), toBig(t, u))
		}
	}
	nines := strings.Repeat("9", most-1)
	if s, e := whole.Sub("-"+nines, "1"); s != "-1"+strings.Repeat("0", most-1) || e != api.OK {
		t.Errorf("Sub of nines below 0 and 1: %.60s, %d", s, e)
	}
	if s, e := whole.Add("-1"+strings.Repeat("0", most-1), "1"); s != "-"+nines || e != api.OK {
		t.Errorf("Add of a power of ten below 0 and 1: %.60s, %d", s, e)
	}
}

// R4: the same is answered again, whatever was asked in between.
func TestSameAgain(t *testing.T) {
	ask := func() string {
		is := calls{t}
		var answers []string
		for _, a := range smallWholes() {
			for _, b := range edgeWholes() {
				answers = append(answers, is.neg(a), is.add(a, b), is.sub(a, b), is.mul(a, b))
			}
		}
		return strings.Join(answers, " ")
	}
	if ask() != ask() {
		t.Error("another answer at the second time")
	}
}
