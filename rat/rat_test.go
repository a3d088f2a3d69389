package rat_test

import (
	"math"
	"math/big"
	"slices"
	"strconv"
	"strings"
	"testing"

	"tapewright/api"
	"tapewright/rat"
)

// wrongTexts are no rationals.
func wrongTexts() []string {
	return []string{
		"", "-", "/", "-/", "//", "-0", "00", "01", "-01", "+1", "--1", "1-", " 1", "1 ", "1\n", "a", "1.5", "1e3", "1_0", "1,0",
		"0/1", "0/2", "-0/2", "0/0", "1/1", "-1/1", "5/1", "1/0", "-1/0", "5/0", "2/2", "2/4", "-2/4", "4/2", "-4/2", "6/3", "6/4", "10/15", "-10/15",
		"1/-2", "-1/-2", "1/+2", "1/--2", "+1/2", "--1/2", "1/02", "01/2", "00/2", "1/00", "1/01", "-01/2", "1/2-", "1-/2",
		"1/", "-1/", "/2", "-/2", "1/2/", "1/2/3", "1//2", "/1/2", "1/2/1", "2//", "1/-", "1/ 2", "1 /2", " 1/2", "1/2 ", "1/2\n", "1 / 2",
		"1/a", "a/2", "1/2a", "1a/2", "1/2.0", "1.0/2", "1/0x2", "1/1e3", "1:2", "1\\2", "1\u20442", "\u00bd", "1\u22152", "\u0661/2", "1/\u0662",
		"\x00", "1/\x00", "1/2\x00", "\xff", "1/\xff", "-\xff/2", "1/\uff12",
		"18446744073709551616/2", "2/18446744073709551616", "1/0" + strings.Repeat("1", 50), "0" + strings.Repeat("1", 50) + "/2",
		strings.Repeat("9", 100) + "/3", "-3/" + strings.Repeat("9", 100), strings.Repeat("3", 60) + "/" + strings.Repeat("3", 90),
	}
}

// around has what is made of each two of the naturals, on both sides of 0.
func around(naturals []string) []string {
	list := []string{"0"}
	for _, p := range naturals {
		for _, q := range naturals {
			x, _ := new(big.Rat).SetString(p + "/" + q)
			list = append(list, x.RatString(), x.Neg(x).RatString())
		}
	}
	slices.Sort(list)
	return slices.Compact(list)
}

// smallRationals are those of numbers up to 6.
func smallRationals() []string {
	return around(strings.Fields("1 2 3 4 5 6"))
}

// edgeRationals are made of numbers that stand where a machine word or the
// length of a text ends, and that share some factors.
func edgeRationals() []string {
	return slices.Concat(smallRationals(), around([]string{"7", "12", "360", "999999999", "1000000000", "4294967296",
		"9223372036854775807", "18446744073709551616", "1" + strings.Repeat("0", 30), "123456789012345678901234567890"}))
}

// fewRationals are some of each kind.
func fewRationals() []string {
	return strings.Fields("0 1 -1 2 1/2 -1/2 2/3 -3/2 5/6 -7/12 18446744073709551616 -1/18446744073709551616 " +
		"1000000000/999999999 -123456789012345678901234567890/17")
}

func toBig(t *testing.T, s string) *big.Rat {
	t.Helper()
	x, ok := new(big.Rat).SetString(s)
	if !ok {
		t.Fatalf("%.60q is no number", s)
	}
	return x
}

// P3.1: which texts are rationals.
func TestRight(t *testing.T) {
	for _, s := range edgeRationals() {
		if !rat.Right(s) {
			t.Errorf("Right of %q: false", s)
		}
	}
	for _, s := range wrongTexts() {
		if rat.Right(s) {
			t.Errorf("Right of %q: true", s)
		}
	}
}

// P3.1: of p/q with small p and q those alone that can not be shortened, and
// have a q above 1.
func TestRightOfSmallParts(t *testing.T) {
	for p := -40; p <= 40; p++ {
		for q := -40; q <= 40; q++ {
			s := strconv.Itoa(p) + "/" + strconv.Itoa(q)
			want := q > 1 && toBig(t, s).RatString() == s
			if rat.Right(s) != want {
				t.Errorf("Right of %q is not %t", s, want)
			}
		}
	}
}

// P3.1: nothing but digits stands on either side of the one /, and a - ahead.
func TestRightOfEachByte(t *testing.T) {
	for c := range 256 {
		b := byte(c)
		digit := '0' <= c && c <= '9'
		for _, k := range []struct {
			text  []byte
			right bool
		}{
			{[]byte{b}, digit},
			{[]byte{b, '7', '/', '1', '0', '1'}, digit && c != '0' || c == '-'},
			{[]byte{'7', b, '/', '1', '0', '1'}, digit},
			{[]byte{'1', '/', b, '1'}, digit && c != '0'},
			{[]byte{'1', '/', '1', b}, digit},
			{[]byte{'1', '/', b}, digit && c > '1'},
			{[]byte{'1', b, '2'}, digit || c == '/'},
			{[]byte{'1', '/', '2', b, '3'}, digit},
		} {
			if rat.Right(string(k.text)) != k.right {
				t.Errorf("Right of %q is not %t", k.text, k.right)
			}
		}
	}
}

// P3.1, P1, R2: of texts that are no rationals all tells ErrForm, whatever
// else is wrong, and nothing beside it.
func TestWrongTexts(t *testing.T) {
	for _, s := range wrongTexts() {
		if n, e := rat.Neg(s); n != "" || e != api.ErrForm {
			t.Errorf("Neg(%q): %q, %d", s, n, e)
		}
		if n, e := rat.Sign(s); n != 0 || e != api.ErrForm {
			t.Errorf("Sign(%q): %d, %d", s, n, e)
		}
		for _, n := range []int{math.MinInt, -1, 0, 1, 6, 7, math.MaxInt} {
			if p, e := rat.Power(s, n); p != "" || e != api.ErrForm {
				t.Errorf("Power(%q, %d): %q, %d", s, n, p, e)
			}
		}
		for _, other := range slices.Concat([]string{"0", "1", "-1/2", "123456789012345678901234567890/17"}, wrongTexts()) {
			checkWrongPair(t, s, other)
			checkWrongPair(t, other, s)
		}
	}
}

func checkWrongPair(t *testing.T, a, b string) {
	t.Helper()
	for i, call := range []func(string, string) (string, api.Errno){rat.Add, rat.Sub, rat.Mul, rat.Quo} {
		if s, e := call(a, b); s != "" || e != api.ErrForm {
			t.Errorf("call %d of %q, %q: %q, %d", i, a, b, s, e)
		}
	}
	if c, e := rat.Compare(a, b); c != 0 || e != api.ErrForm {
		t.Errorf("Compare(%q, %q): %d, %d", a, b, c, e)
	}
}

// P3.1: the document's examples, and cases that can be told by hand.
func TestByHand(t *testing.T) {
	for _, c := range []struct {
		a, b, sum, difference, product, quotient string
		compared                                 int
	}{
		{"1/2", "1/3", "5/6", "1/6", "1/6", "3/2", 1},
		{"1/2", "1/2", "1", "0", "1/4", "1", 0},
		{"1/2", "-1/2", "0", "1", "-1/4", "-1", 1},
		{"-1/2", "-1/3", "-5/6", "-1/6", "1/6", "3/2", -1},
		{"2", "3", "5", "-1", "6", "2/3", -1},
		{"6", "3", "9", "3", "18", "2", 1},
		{"0", "-7/3", "-7/3", "7/3", "0", "0", 1},
		{"1/6", "1/3", "1/2", "-1/6", "1/18", "1/2", -1},
		{"1/6", "1/10", "4/15", "1/15", "1/60", "5/3", 1},
		{"5/12", "7/12", "1", "-1/6", "35/144", "5/7", -1},
		{"4/3", "3/4", "25/12", "7/12", "1", "16/9", 1},
		{"-4/9", "15/8", "103/72", "-167/72", "-5/6", "-32/135", -1},
		{"1/4", "-2", "-7/4", "9/4", "-1/2", "-1/8", 1},
	} {
		for _, k := range []struct {
			name string
			call func(string, string) (string, api.Errno)
			want string
		}{
			{"Add", rat.Add, c.sum}, {"Sub", rat.Sub, c.difference}, {"Mul", rat.Mul, c.product}, {"Quo", rat.Quo, c.quotient},
		} {
			if got, e := k.call(c.a, c.b); got != k.want || e != api.OK {
				t.Errorf("%s(%s, %s): %q, %d; %q is right", k.name, c.a, c.b, got, e, k.want)
			}
		}
		if compared, e := rat.Compare(c.a, c.b); compared != c.compared || e != api.OK {
			t.Errorf("Compare(%s, %s): %d, %d", c.a, c.b, compared, e)
		}
	}
}

// P3.1: Make shortens, brings the sign ahead, and leaves no 1 behind a /.
func TestMake(t *testing.T) {
	for _, c := range []struct{ p, q, want string }{
		{"4", "-6", "-2/3"}, {"-4", "6", "-2/3"}, {"-4", "-6", "2/3"}, {"4", "6", "2/3"},
		{"6", "3", "2"}, {"6", "-3", "-2"}, {"-7", "-1", "7"}, {"7", "1", "7"}, {"3", "5", "3/5"},
		{"0", "1", "0"}, {"0", "-1", "0"}, {"0", "5", "0"}, {"0", "-5", "0"}, {"-5", "5", "-1"},
		{"18446744073709551616", "-4294967296", "-4294967296"}, {"1", "-18446744073709551616", "-1/18446744073709551616"},
	} {
		if got, e := rat.Make(c.p, c.q); got != c.want || e != api.OK {
			t.Errorf("Make(%s, %s): %q, %d", c.p, c.q, got, e)
		}
	}
	for p := -30; p <= 30; p++ {
		for q := -30; q <= 30; q++ {
			if q == 0 {
				continue
			}
			want := big.NewRat(int64(p), int64(q)).RatString()
			if got, e := rat.Make(strconv.Itoa(p), strconv.Itoa(q)); got != want || e != api.OK {
				t.Errorf("Make(%d, %d): %q, %d", p, q, got, e)
			}
		}
	}
}

// P3.1, R2: Make tells ErrForm ahead of ErrZero, also of rationals that are no
// whole numbers.
func TestMakeOfWrong(t *testing.T) {
	for _, s := range slices.Concat(wrongTexts(), []string{"1/2", "-2/3"}) {
		for _, other := range slices.Concat([]string{"0", "1", "-6", "1/2"}, wrongTexts()) {
			if got, e := rat.Make(s, other); got != "" || e != api.ErrForm {
				t.Errorf("Make(%q, %q): %q, %d", s, other, got, e)
			}
			if got, e := rat.Make(other, s); got != "" || e != api.ErrForm {
				t.Errorf("Make(%q, %q): %q, %d", other, s, got, e)
			}
		}
	}
	for _, s := range []string{"0", "1", "-1", "12", "-18446744073709551616"} {
		if got, e := rat.Make(s, "0"); got != "" || e != api.ErrZero {
			t.Errorf("Make(%q, 0): %q, %d", s, got, e)
		}
	}
}

// P3.1: nothing is divided by 0.
func TestQuoByZero(t *testing.T) {
	for _, a := range edgeRationals() {
		if got, e := rat.Quo(a, "0"); got != "" || e != api.ErrZero {
			t.Errorf("Quo(%s, 0): %q, %d", a, got, e)
		}
	}
}

// P3.1: powers from 0 to MaxPower, and none beyond.
func TestPower(t *testing.T) {
	for _, a := range edgeRationals() {
		want := big.NewRat(1, 1)
		for n := range api.MaxPower + 1 {
			if got, e := rat.Power(a, n); got != want.RatString() || e != api.OK {
				t.Errorf("Power(%s, %d): %q, %d", a, n, got, e)
			}
			want.Mul(want, toBig(t, a))
		}
		for _, n := range []int{math.MinInt, -7, -6, -2, -1, 7, 8, 64, math.MaxInt} {
			if got, e := rat.Power(a, n); got != "" || e != api.ErrArg {
				t.Errorf("Power(%s, %d): %q, %d", a, n, got, e)
			}
		}
	}
	for _, c := range []struct {
		a    string
		n    int
		want string
	}{
		{"-2/3", 3, "-8/27"}, {"0", 0, "1"}, {"0", 1, "0"}, {"0", 6, "0"}, {"-1", 6, "1"}, {"-1", 5, "-1"}, {"10", 6, "1000000"}, {"1/2", 6, "1/64"},
	} {
		if got, e := rat.Power(c.a, c.n); got != c.want || e != api.OK {
			t.Errorf("Power(%s, %d): %q, %d", c.a, c.n, got, e)
		}
	}
}

// P3.1: all of it, held against math/big.
func TestAgainstBig(t *testing.T) {
	for _, s := range edgeRationals() {
		checkAlone(t, s)
		for _, u := range edgeRationals() {
			checkPair(t, s, u)
		}
	}
}

func checkAlone(t *testing.T, s string) {
	t.Helper()
	a := toBig(t, s)
	if got, e := rat.Sign(s); e != api.OK || got != a.Sign() {
		t.Fatalf("Sign(%.60s): %d, %d", s, got, e)
	}
	if got, e := rat.Neg(s); e != api.OK || got != new(big.Rat).Neg(a).RatString() {
		t.Fatalf("Neg(%.60s): %.60s, %d", s, got, e)
	}
}

func checkPair(t *testing.T, s, u string) {
	t.Helper()
	a, b := toBig(t, s), toBig(t, u)
	if got, e := rat.Add(s, u); e != api.OK || got != new(big.Rat).Add(a, b).RatString() {
		t.Fatalf("Add(%.60s, %.60s): %.60s, %d", s, u, got, e)
	}
	if got, e := rat.Sub(s, u); e != api.OK || got != new(big.Rat).Sub(a, b).RatString() {
		t.Fatalf("Sub(%.60s, %.60s): %.60s, %d", s, u, got, e)
	}
	if got, e := rat.Mul(s, u); e != api.OK || got != new(big.Rat).Mul(a, b).RatString() {
		t.Fatalf("Mul(%.60s, %.60s): %.60s, %d", s, u, got, e)
	}
	if got, e := rat.Compare(s, u); e != api.OK || got != a.Cmp(b) {
		t.Fatalf("Compare(%.60s, %.60s): %d, %d", s, u, got, e)
	}
	if b.Sign() == 0 {
		return
	}
	if got, e := rat.Quo(s, u); e != api.OK || got != new(big.Rat).Quo(a, b).RatString() {
		t.Fatalf("Quo(%.60s, %.60s): %.60s, %d", s, u, got, e)
	}
}

// calls are the layer's, of right numbers alone.
type calls struct {
	t *testing.T
}

func (c calls) right(s string, e api.Errno) string {
	c.t.Helper()
	if e != api.OK || !rat.Right(s) {
		c.t.Fatalf("%.60q, error %d", s, e)
	}
	return s
}

func (c calls) neg(a string) string {
	c.t.Helper()
	return c.right(rat.Neg(a))
}

func (c calls) add(a, b string) string {
	c.t.Helper()
	return c.right(rat.Add(a, b))
}

func (c calls) sub(a, b string) string {
	c.t.Helper()
	return c.right(rat.Sub(a, b))
}

func (c calls) mul(a, b string) string {
	c.t.Helper()
	return c.right(rat.Mul(a, b))
}

func (c calls) quo(a, b string) string {
	c.t.Helper()
	return c.right(rat.Quo(a, b))
}

// checkLaws fails the test where the two sides of a law differ; equal numbers
// have equal texts.
func (c calls) checkLaws(of []string, laws [][2]string) {
	c.t.Helper()
	for i, law := range laws {
		if law[0] != law[1] {
			c.t.Fatalf("law %d of %q: %s, %s", i, of, law[0], law[1])
		}
	}
}

// P3.2: the laws of a field, of one number and of two.
func TestLawsOfTwo(t *testing.T) {
	is := calls{t}
	list := slices.Concat(smallRationals(), fewRationals())
	for _, a := range list {
		is.checkLaws([]string{a}, [][2]string{
			{is.add(a, "0"), a}, {is.mul(a, "1"), a}, {is.mul(a, "0"), "0"}, {is.mul(a, "-1"), is.neg(a)},
			{is.add(a, is.neg(a)), "0"}, {is.neg(is.neg(a)), a}, {is.sub(a, a), "0"}, {is.sub("0", a), is.neg(a)}, {is.quo(a, "1"), a},
		})
		for _, b := range list {
			is.checkLaws([]string{a, b}, [][2]string{
				{is.add(a, b), is.add(b, a)}, {is.mul(a, b), is.mul(b, a)},
				{is.sub(a, b), is.add(a, is.neg(b))}, {is.add(is.sub(a, b), b), a},
				{is.mul(is.neg(a), b), is.neg(is.mul(a, b))},
			})
			if b == "0" {
				continue
			}
			is.checkLaws([]string{a, b}, [][2]string{
				{is.mul(b, is.quo("1", b)), "1"}, {is.quo(b, b), "1"}, {is.quo("1", is.quo("1", b)), b},
				{is.quo(a, b), is.mul(a, is.quo("1", b))}, {is.mul(is.quo(a, b), b), a}, {is.quo(is.mul(a, b), b), a},
			})
		}
	}
}

// P3.2: the laws of a field, of three.
func TestLawsOfThree(t *testing.T) {
	is := calls{t}
	for _, a := range fewRationals() {
		for _, b := range fewRationals() {
			for _, c := range fewRationals() {
				is.checkLaws([]string{a, b, c}, [][2]string{
					{is.add(is.add(a, b), c), is.add(a, is.add(b, c))},
					{is.mul(is.mul(a, b), c), is.mul(a, is.mul(b, c))},
					{is.mul(is.add(a, b), c), is.add(is.mul(a, c), is.mul(b, c))},
				})
			}
		}
	}
}

// P3.2: each rational has one text: texts differ just if the numbers do, and
// making it of its parts, times whatever, gives it back.
func TestOneText(t *testing.T) {
	is := calls{t}
	for _, a := range smallRationals() {
		for _, b := range smallRationals() {
			if c, e := rat.Compare(a, b); (c == 0) != (a == b) || e != api.OK {
				t.Errorf("Compare(%s, %s): %d, %d", a, b, c, e)
			}
		}
	}
	for _, a := range edgeRationals() {
		x := toBig(t, a)
		for _, times := range []string{"1", "-1", "2", "-6", "360", "-18446744073709551616", "1" + strings.Repeat("0", 40)} {
			p := is.mul(x.Num().String(), times)
			q := is.mul(x.Denom().String(), times)
			if got, e := rat.Make(p, q); got != a || e != api.OK {
				t.Errorf("Make(%s, %s): %q, %d", p, q, got, e)
			}
		}
	}
}

// P3.1: Compare tells the difference's sign.
func TestCompareIsTheSignOfTheDifference(t *testing.T) {
	is := calls{t}
	for _, a := range edgeRationals() {
		for _, b := range fewRationals() {
			compared, e := rat.Compare(a, b)
			sign, signErr := rat.Sign(is.sub(a, b))
			if compared != sign || e != api.OK || signErr != api.OK {
				t.Fatalf("Compare(%s, %s): %d, %d; the difference's sign: %d, %d", a, b, compared, e, sign, signErr)
			}
		}
	}
}

// P3.1, P1: numbers of as many digits as are promised (2^16).
func TestManyDigits(t *testing.T) {
	const most = 1 << 16
	long := strings.Repeat("7318204659", most/20)
	ten := "1" + strings.Repeat("0", most/2-1)
	list := []string{long + "1/" + ten, "-" + ten + "/" + long + "1", long, "-1/" + long}
	for _, s := range list {
		if !rat.Right(s) || rat.Right(s+"/") || rat.Right(s+"/-2") {
			t.Fatalf("Right of %.60s", s)
		}
		checkAlone(t, s)
		for _, u := range list {
			checkPair(t, s, u)
		}
	}
	if rat.Right(long + "0/" + ten) {
		t.Error("Right of two that 10 divides")
	}
	sixth := strings.Repeat("9", most/6) + "/1" + strings.Repeat("0", most/6-1)
	want := toBig(t, sixth)
	want.Mul(want, want).Mul(want, toBig(t, sixth))
	if got, e := rat.Power(sixth, 6); got != want.Mul(want, want).RatString() || e != api.OK {
		t.Errorf("Power of many digits: %.60s, %d", got, e)
	}
}

// R4: the same is answered again, whatever was asked in between.
func TestSameAgain(t *testing.T) {
	ask := func() string {
		is := calls{t}
		var answers []string
		for _, a := range smallRationals() {
			for _, b := range fewRationals() {
				answers = append(answers, is.neg(a), is.add(a, b), is.sub(a, b), is.mul(a, b))
			}
		}
		return strings.Join(answers, " ")
	}
	if ask() != ask() {
		t.Error("another answer at the second time")
	}
}
