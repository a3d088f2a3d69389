package nat_test

import (
	"math/big"
	"strings"
	"testing"

	"tapewright/api"
	"tapewright/nat"
)

// wrongTexts are no naturals.
func wrongTexts() []string {
	return []string{
		"", "00", "01", "007", "-1", "-0", "-", "+1", "+", " ", " 1", "1 ", "1\n", "\t1", "1 2",
		"a", "1a", "a1", "0x1", "1e3", "1.0", "1,000", "1_000", "1/2", "/", ":", "1:", "1/",
		"\x00", "1\x00", "\xff", "1\xff", "\u0661", "\uff11", "\u00b2", "1\u0660",
		"0" + strings.Repeat("1", 100), strings.Repeat("9", 100) + "x", strings.Repeat("0", 18),
		strings.Repeat("1", 40) + "-" + strings.Repeat("1", 40),
	}
}

// edgeNaturals stand around the places where a number gets a digit, a limb or
// a machine word more.
func edgeNaturals() []string {
	list := []string{"0", "1", "2", "3", "9", "10", "11", "12", "499999999", "500000000", "4294967295", "4294967296",
		"9223372036854775807", "9223372036854775808", "18446744073709551615", "18446744073709551616"}
	for _, n := range []int{8, 9, 10, 17, 18, 19, 26, 27, 28, 36, 45, 90} {
		list = append(list,
			strings.Repeat("9", n),
			"1"+strings.Repeat("0", n),
			"1"+strings.Repeat("0", n-1)+"1",
			"4"+strings.Repeat("9", n),
			"5"+strings.Repeat("0", n))
	}
	return list
}

// digits is a source of naturals that is the same at each run.
type digits struct {
	state uint64
}

func (d *digits) below(n int) int {
	d.state = d.state*6364136223846793005 + 1442695040888963407
	return int(d.state>>33) % n
}

// natural has just so many digits.
func (d *digits) natural(length int) string {
	out := make([]byte, length)
	for i := range out {
		out[i] = byte('0' + d.below(10))
	}
	if out[0] == '0' {
		out[0] = '1'
	}
	return string(out)
}

// lumpy is made of the groups of nine digits at which a long division guesses
// wrong.
func (d *digits) lumpy(groups int) string {
	kinds := []string{"000000000", "000000001", "499999999", "500000000", "500000001", "999999998", "999999999"}
	out := []string{strings.TrimLeft(kinds[1+d.below(len(kinds)-1)], "0")}
	for range groups {
		out = append(out, kinds[d.below(len(kinds))])
	}
	return strings.Join(out, "")
}

// pairs are naturals of all lengths, to be held against math/big.
func pairs() [][2]string {
	var list [][2]string
	for _, a := range edgeNaturals() {
		for _, b := range edgeNaturals() {
			list = append(list, [2]string{a, b})
		}
	}
	d := &digits{state: 1}
	for range 3000 {
		list = append(list, [2]string{d.natural(1 + d.below(120)), d.natural(1 + d.below(120))})
	}
	for range 6000 {
		list = append(list, [2]string{d.lumpy(d.below(8)), d.lumpy(d.below(8))})
	}
	for range 20 {
		list = append(list, [2]string{d.natural(500 + d.below(2000)), d.natural(500 + d.below(2000))})
	}
	return list
}

func toBig(t *testing.T, s string) *big.Int {
	t.Helper()
	n, ok := new(big.Int).SetString(s, 10)
	if !ok {
		t.Fatalf("%q is no number", s)
	}
	return n
}

func short(s string) string {
	if len(s) > 60 {
		return s[:60] + "..."
	}
	return s
}

// natural gives the number of an answer, and fails the test at an error.
func natural(t *testing.T, what string) func(s string, e api.Errno) string {
	return func(s string, e api.Errno) string {
		t.Helper()
		if e != api.OK || !nat.Right(s) {
			t.Fatalf("%s: %q, error %d", what, short(s), e)
		}
		return s
	}
}

// P1.1: which texts are naturals.
func TestRight(t *testing.T) {
	for _, s := range edgeNaturals() {
		if !nat.Right(s) {
			t.Errorf("Right of %q: false", s)
		}
	}
	for _, s := range wrongTexts() {
		if nat.Right(s) {
			t.Errorf("Right of %q: true", s)
		}
	}
	for c := range 256 {
		digit := '0' <= c && c <= '9'
		if nat.Right(string([]byte{byte(c)})) != digit || nat.Right(string([]byte{'1', byte(c), '1'})) != digit {
			t.Errorf("Right of the byte %d is not %t", c, digit)
		}
	}
	if long := strings.Repeat("9", 1<<20); !nat.Right(long) || nat.Right(long+"a") || nat.Right("0"+long) {
		t.Error("Right of a million digits")
	}
}

// P1.1, P1, R2: of other texts all else tells ErrForm, ahead of ErrZero and
// ErrArg, and nothing beside it.
func TestWrongTexts(t *testing.T) {
	check := func(a, b string) {
		t.Helper()
		if s, e := nat.Add(a, b); s != "" || e != api.ErrForm {
			t.Errorf("Add(%q, %q): %q, %d", a, b, s, e)
		}
		if s, e := nat.Sub(a, b); s != "" || e != api.ErrForm {
			t.Errorf("Sub(%q, %q): %q, %d", a, b, s, e)
		}
		if s, e := nat.Mul(a, b); s != "" || e != api.ErrForm {
			t.Errorf("Mul(%q, %q): %q, %d", a, b, s, e)
		}
		if q, r, e := nat.Div(a, b); q != "" || r != "" || e != api.ErrForm {
			t.Errorf("Div(%q, %q): %q, %q, %d", a, b, q, r, e)
		}
		if s, e := nat.Gcd(a, b); s != "" || e != api.ErrForm {
			t.Errorf("Gcd(%q, %q): %q, %d", a, b, s, e)
		}
		if c, e := nat.Compare(a, b); c != 0 || e != api.ErrForm {
			t.Errorf("Compare(%q, %q): %d, %d", a, b, c, e)
		}
	}
	for _, wrong := range wrongTexts() {
		for _, right := range []string{"0", "1", "5", "123456789012345678901234567890"} {
			check(wrong, right)
			check(right, wrong)
		}
		for _, other := range wrongTexts() {
			check(wrong, other)
		}
	}
}

// P1.1: the document's example, and small cases that can be told by hand.
func TestByHand(t *testing.T) {
	for _, c := range []struct{ a, b, sum, product, quotient, left, divisor string }{
		{"99999999999", "99999999999", "199999999998", "9999999999800000000001", "1", "0", "99999999999"},
		{"0", "1", "1", "0", "0", "0", "1"},
		{"1", "1", "2", "1", "1", "0", "1"},
		{"7", "2", "9", "14", "3", "1", "1"},
		{"2", "7", "9", "14", "0", "2", "1"},
		{"999999999", "1", "1000000000", "999999999", "999999999", "0", "1"},
		{"1000000000", "999999999", "1999999999", "999999999000000000", "1", "1", "1"},
		{"1000000000000000000", "1000000000", "1000000001000000000", "1000000000000000000000000000", "1000000000", "0", "1000000000"},
		{"84", "36", "120", "3024", "2", "12", "12"},
	} {
		check := natural(t, c.a+" and "+c.b)
		quotient, left, e := nat.Div(c.a, c.b)
		got := []string{check(nat.Add(c.a, c.b)), check(nat.Mul(c.a, c.b)), check(quotient, e), check(left, e), check(nat.Gcd(c.a, c.b))}
		want := []string{c.sum, c.product, c.quotient, c.left, c.divisor}
		if strings.Join(got, " ") != strings.Join(want, " ") {
			t.Errorf("%s and %s: %v, not %v", c.a, c.b, got, want)
		}
	}
}

// P1.1: all of it, held against math/big.
func TestAgainstBig(t *testing.T) {
	for _, p := range pairs() {
		a, b := toBig(t, p[0]), toBig(t, p[1])
		checkSums(t, p[0], p[1], a, b)
		checkDivisors(t, p[0], p[1], a, b)
	}
}

func checkSums(t *testing.T, s, u string, a, b *big.Int) {
	t.Helper()
	if got, e := nat.Add(s, u); e != api.OK || got != new(big.Int).Add(a, b).String() {
		t.Fatalf("Add(%s, %s): %s, %d", s, u, got, e)
	}
	if got, e := nat.Mul(s, u); e != api.OK || got != new(big.Int).Mul(a, b).String() {
		t.Fatalf("Mul(%s, %s): %s, %d", s, u, got, e)
	}
	if got, e := nat.Compare(s, u); e != api.OK || got != a.Cmp(b) {
		t.Fatalf("Compare(%s, %s): %d, %d", s, u, got, e)
	}
	want, wantErr := "", api.ErrArg
	if a.Cmp(b) >= 0 {
		want, wantErr = new(big.Int).Sub(a, b).String(), api.OK
	}
	if got, e := nat.Sub(s, u); e != wantErr || got != want {
		t.Fatalf("Sub(%s, %s): %s, %d", s, u, got, e)
	}
}

func checkDivisors(t *testing.T, s, u string, a, b *big.Int) {
	t.Helper()
	if got, e := nat.Gcd(s, u); e != api.OK || got != new(big.Int).GCD(nil, nil, a, b).String() {
		t.Fatalf("Gcd(%s, %s): %s, %d", s, u, got, e)
	}
	quotient, left, e := nat.Div(s, u)
	if b.Sign() == 0 {
		if quotient != "" || left != "" || e != api.ErrZero {
			t.Fatalf("Div(%s, 0): %s, %s, %d", s, quotient, left, e)
		}
		return
	}
	wantQuotient, wantLeft := new(big.Int).QuoRem(a, b, new(big.Int))
	if e != api.OK || quotient != wantQuotient.String() || left != wantLeft.String() {
		t.Fatalf("Div(%s, %s): %s, %s, %d", s, u, quotient, left, e)
	}
}

// P1.1: a Sub whose b is above a, by a little or by much, is ErrArg.
func TestSubAbove(t *testing.T) {
	for _, a := range edgeNaturals() {
		if s, e := nat.Sub(a, a); s != "0" || e != api.OK {
			t.Errorf("Sub(%s, %s): %q, %d", a, a, s, e)
		}
		more, _ := nat.Add(a, "1")
		if s, e := nat.Sub(a, more); s != "" || e != api.ErrArg {
			t.Errorf("Sub(%s, %s): %q, %d", a, more, s, e)
		}
		if s, e := nat.Sub(more, a); s != "1" || e != api.OK {
			t.Errorf("Sub(%s, %s): %q, %d", more, a, s, e)
		}
		if s, e := nat.Sub(a, more+"000"); s != "" || e != api.ErrArg {
			t.Errorf("Sub(%s, %s000): %q, %d", a, more, s, e)
		}
	}
}

// P1.1: nothing is divided by 0, not even 0.
func TestDivByZero(t *testing.T) {
	for _, a := range edgeNaturals() {
		if q, r, e := nat.Div(a, "0"); q != "" || r != "" || e != api.ErrZero {
			t.Errorf("Div(%s, 0): %q, %q, %d", a, q, r, e)
		}
	}
}

// P1.1: 0 is divided by all numbers, so the greatest common one is the other;
// of 0 and 0 it is 0.
func TestGcdOfZero(t *testing.T) {
	for _, a := range edgeNaturals() {
		if s, e := nat.Gcd(a, "0"); s != a || e != api.OK {
			t.Errorf("Gcd(%s, 0): %q, %d", a, s, e)
		}
		if s, e := nat.Gcd("0", a); s != a || e != api.OK {
			t.Errorf("Gcd(0, %s): %q, %d", a, s, e)
		}
	}
}

// P1.1: numbers with a known divisor, and neighbours in Fibonacci's row, which
// take the most steps.
func TestGcdOfProducts(t *testing.T) {
	d := &digits{state: 2}
	for range 300 {
		common := toBig(t, d.natural(1+d.below(100)))
		a := new(big.Int).Mul(common, toBig(t, d.natural(1+d.below(200))))
		b := new(big.Int).Mul(common, toBig(t, d.natural(1+d.below(200))))
		checkDivisors(t, a.String(), b.String(), a, b)
		checkDivisors(t, common.String(), a.String(), common, a)
	}
	a, b := big.NewInt(0), big.NewInt(1)
	for range 1500 {
		a, b = b, new(big.Int).Add(a, b)
		if s, e := nat.Gcd(a.String(), b.String()); s != "1" || e != api.OK {
			t.Fatalf("Gcd(%s, %s): %q, %d", a, b, s, e)
		}
	}
}

// P1.2: the laws of sums and products.
func TestLaws(t *testing.T) {
	check := natural(t, "a law")
	d := &digits{state: 3}
	for range 500 {
		a, b, c := d.lumpy(d.below(6)), d.natural(1+d.below(60)), d.natural(1+d.below(60))
		sum, product := check(nat.Add(a, b)), check(nat.Mul(a, b))
		laws := [][2]string{
			{sum, check(nat.Add(b, a))},
			{product, check(nat.Mul(b, a))},
			{check(nat.Add(sum, c)), check(nat.Add(a, check(nat.Add(b, c))))},
			{check(nat.Mul(product, c)), check(nat.Mul(a, check(nat.Mul(b, c))))},
			{check(nat.Mul(sum, c)), check(nat.Add(check(nat.Mul(a, c)), check(nat.Mul(b, c))))},
			{check(nat.Sub(sum, b)), a},
			{check(nat.Add(a, "0")), a},
			{check(nat.Mul(a, "1")), a},
			{check(nat.Mul(a, "0")), "0"},
		}
		for i, law := range laws {
			if law[0] != law[1] {
				t.Fatalf("law %d of %s, %s, %s: %s, %s", i, a, b, c, law[0], law[1])
			}
		}
	}
}

// P1.2: a quotient, times the divisor, and what is left over, are the number;
// and less is left over than the divisor.
func TestQuotientAndLeft(t *testing.T) {
	check := natural(t, "a quotient")
	for _, p := range pairs() {
		if p[1] == "0" {
			continue
		}
		quotient, left, e := nat.Div(p[0], p[1])
		back := check(nat.Add(check(nat.Mul(check(quotient, e), p[1])), check(left, e)))
		if back != p[0] {
			t.Fatalf("Div(%s, %s): %s, %s", p[0], p[1], quotient, left)
		}
		if c, e := nat.Compare(left, p[1]); c != -1 || e != api.OK {
			t.Fatalf("Div(%s, %s) leaves %s", p[0], p[1], left)
		}
	}
}

// P1.1, P1.2, P1: numbers of as many digits as are promised (2^16).
func TestManyDigits(t *testing.T) {
	const most = 1 << 16
	d := &digits{state: 4}
	a, b := d.natural(most-1), d.natural(most-2)
	half, other := d.natural(most/2), d.natural(most/2)
	checkDivisors(t, a, b, toBig(t, a), toBig(t, b))
	checkDivisors(t, a, half, toBig(t, a), toBig(t, half))
	checkSums(t, half, other, toBig(t, half), toBig(t, other))
	nines := strings.Repeat("9", most-1)
	if s, e := nat.Add(nines, "1"); s != "1"+strings.Repeat("0", most-1) || e != api.OK {
		t.Errorf("Add of nines and 1: %s, %d", short(s), e)
	}
	if s, e := nat.Sub("1"+strings.Repeat("0", most-1), "1"); s != nines || e != api.OK {
		t.Errorf("Sub of a power of ten and 1: %s, %d", short(s), e)
	}
	if c, e := nat.Compare(nines, nines[1:]+"8"); c != 1 || e != api.OK {
		t.Errorf("Compare of nines: %d, %d", c, e)
	}
}

// R4: the same is answered again, whatever was asked in between.
func TestSameAgain(t *testing.T) {
	ask := func() []string {
		var answers []string
		for _, p := range pairs()[:500] {
			sum, _ := nat.Add(p[0], p[1])
			product, _ := nat.Mul(p[0], p[1])
			quotient, left, _ := nat.Div(p[0], p[1])
			divisor, _ := nat.Gcd(p[0], p[1])
			answers = append(answers, sum, product, quotient, left, divisor)
		}
		return answers
	}
	if strings.Join(ask(), " ") != strings.Join(ask(), " ") {
		t.Error("another answer at the second time")
	}
}
