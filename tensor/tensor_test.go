package tensor_test

import (
	"math"
	"math/big"
	"slices"
	"strings"
	"testing"

	"tapewright/api"
	"tapewright/rat"
	"tapewright/tensor"
)

// of has a tensor's numbers as words.
func of(s []int, words string) api.Tensor {
	return api.Tensor{Shape: s, Data: strings.Fields(words)}
}

// wrongNumbers are no rationals.
func wrongNumbers() []string {
	return []string{"", " ", "-", "/", "-0", "00", "01", "+1", "--1", " 1", "1 ", "1\n", "a", "1.5", "1e3", "0x1", "1_0",
		"0/1", "0/2", "1/1", "1/0", "-1/0", "2/4", "-2/4", "4/2", "6/3", "1/-2", "+1/2", "1/02", "01/2", "1/", "/2", "1//2", "1/2/3", "1/ 2",
		"\x00", "1/\xff", "\u0661", "\u00bd", "18446744073709551616/2", strings.Repeat("9", 100) + "/3"}
}

// wrongShapes are none, by a number, by their length, or by their product.
func wrongShapes() [][]int {
	return [][]int{{0}, {-1}, {65}, {math.MinInt}, {math.MaxInt}, {1 << 32}, {2, 0}, {0, 2}, {-1, -1}, {-2, -3}, {64, 2}, {8, 9}, {5, 13},
		{4, 4, 5}, {3, 3, 3, 3}, {1, 1, 1, 1, 1}, {1, 1, 1, 1, 2}, {1 << 32, 1 << 32}, {math.MinInt, -1}, {math.MaxInt, 2}, slices.Repeat([]int{1}, 1<<16)}
}

// wrongTensors are none, by their shape, by how many numbers they have, or by one of these.
func wrongTensors() []api.Tensor {
	list := []api.Tensor{
		{}, {Shape: []int{}, Data: []string{}}, {Data: []string{"1", "2"}}, {Shape: []int{1}}, {Shape: []int{1}, Data: []string{"1", "2"}},
		{Shape: []int{2}, Data: []string{"1"}}, {Shape: []int{2}, Data: []string{"1", "2", "3"}}, {Shape: []int{2, 3}, Data: slices.Repeat([]string{"1"}, 5)},
		{Shape: []int{2, 3}, Data: slices.Repeat([]string{"1"}, 7)}, {Shape: []int{64}, Data: slices.Repeat([]string{"1"}, 63)},
		{Shape: []int{64}, Data: slices.Repeat([]string{"1"}, 65)}, {Shape: []int{8, 8}, Data: slices.Repeat([]string{"1"}, 1<<16)},
	}
	for _, s := range wrongShapes() {
		for _, n := range []int{0, 1, 2, 6, 64, 65, 72, 81, 128} {
			list = append(list, api.Tensor{Shape: s, Data: slices.Repeat([]string{"1"}, n)})
		}
	}
	for _, k := range wrongNumbers() {
		list = append(list, api.Tensor{Data: []string{k}})
		for at := range 6 {
			data := slices.Repeat([]string{"1/2"}, 6)
			data[at] = k
			list = append(list, api.Tensor{Shape: []int{2, 3}, Data: data})
		}
	}
	return list
}

// rightShapes are some of each length, of size 64 among them.
func rightShapes() [][]int {
	return [][]int{nil, {}, {1}, {2}, {5}, {63}, {64}, {1, 1}, {2, 1}, {1, 2}, {2, 3}, {3, 2}, {8, 8}, {64, 1}, {2, 3, 4}, {1, 1, 64}, {1, 1, 1, 1}, {2, 2, 4, 4}, {3, 3, 7, 1}}
}

// numbers is a source of rationals that is the same at each run.
type numbers struct {
	state uint64
}

func (n *numbers) below(limit int) int {
	n.state = n.state*6364136223846793005 + 1442695040888963407
	return int(n.state>>33) % limit
}

func (n *numbers) next() string {
	odd := strings.Fields("0 1 -1 18446744073709551616 -1/18446744073709551616 1000000000/999999999 -123456789012345678901234567890/17")
	if at := n.below(4 * len(odd)); at < len(odd) {
		return odd[at]
	}
	return big.NewRat(int64(n.below(41)-20), int64(1+n.below(12))).RatString()
}

func size(s []int) int {
	product := 1
	for _, k := range s {
		product *= k
	}
	return product
}

// tensor is of a right shape.
func (n *numbers) tensor(s []int) api.Tensor {
	t := api.Tensor{Shape: slices.Clone(s)}
	for range size(s) {
		t.Data = append(t.Data, n.next())
	}
	return t
}

func same(a, b api.Tensor) bool {
	return slices.Equal(a.Shape, b.Shape) && slices.Equal(a.Data, b.Data)
}

func wantTensor(t *testing.T, what string, want api.Tensor) func(got api.Tensor, e api.Errno) {
	return func(got api.Tensor, e api.Errno) {
		t.Helper()
		if e != api.OK || !same(got, want) {
			t.Errorf("%s: %v, error %d, not %v", what, got, e, want)
		}
	}
}

// wantNone asks for an error, and for nothing beside it.
func wantNone(t *testing.T, what string, want api.Errno) func(got api.Tensor, e api.Errno) {
	return func(got api.Tensor, e api.Errno) {
		t.Helper()
		if e != want || got.Shape != nil || got.Data != nil {
			t.Errorf("%s: %.200v, error %d, not %d", what, got, e, want)
		}
	}
}

func toBig(t *testing.T, s string) *big.Rat {
	t.Helper()
	x, ok := new(big.Rat).SetString(s)
	if !ok {
		t.Fatalf("%.60q is no number", s)
	}
	return x
}

// P5.1: what a tensor is.
func TestRight(t *testing.T) {
	source := &numbers{state: 1}
	for _, s := range rightShapes() {
		a := source.tensor(s)
		if !tensor.Right(a) {
			t.Errorf("Right of %v: false", a)
		}
		longer, shorter := a, a
		longer.Data = append(slices.Clone(a.Data), "1")
		shorter.Data = a.Data[1:]
		if tensor.Right(longer) || tensor.Right(shorter) {
			t.Errorf("Right of %v with a number more or less: true", s)
		}
	}
	for _, a := range wrongTensors() {
		if tensor.Right(a) {
			t.Errorf("Right of %.200v: true", a)
		}
	}
	if !tensor.Right(of(nil, "0")) || !tensor.Right(of([]int{}, "-1/2")) || !tensor.Right(of([]int{1, 1, 1, 1}, "7")) {
		t.Error("Right of one number: false")
	}
}

// P5.1: a wrong number is found at each place of the greatest shape.
func TestRightAtEachPlace(t *testing.T) {
	for at := range api.MaxSize {
		data := slices.Repeat([]string{"2/3"}, api.MaxSize)
		data[at] = "2/4"
		if tensor.Right(api.Tensor{Shape: []int{4, 16}, Data: data}) {
			t.Errorf("Right with a wrong number at %d: true", at)
		}
	}
}

// P5.1: Fill has its number at all places.
func TestFill(t *testing.T) {
	wantTensor(t, "Fill", of([]int{2, 3}, "1/2 1/2 1/2 1/2 1/2 1/2"))(tensor.Fill([]int{2, 3}, "1/2"))
	wantTensor(t, "Fill of none", of(nil, "-5"))(tensor.Fill(nil, "-5"))
	wantTensor(t, "Fill of an empty list", of(nil, "0"))(tensor.Fill([]int{}, "0"))
	wantTensor(t, "Fill of 64", api.Tensor{Shape: []int{2, 2, 4, 4}, Data: slices.Repeat([]string{"-7/3"}, 64)})(tensor.Fill([]int{2, 2, 4, 4}, "-7/3"))
	for _, s := range rightShapes() {
		want := api.Tensor{Shape: s, Data: slices.Repeat([]string{"3/4"}, size(s))}
		wantTensor(t, "Fill", want)(tensor.Fill(s, "3/4"))
	}
}

// P5.1: Fill of no shape, and of no rational, and of both.
func TestFillOfWrong(t *testing.T) {
	for _, s := range wrongShapes() {
		for _, k := range []string{"1", "0", "-1/2", "2/4", ""} {
			wantNone(t, "Fill of no shape", api.ErrArg)(tensor.Fill(s, k))
		}
	}
	for _, k := range wrongNumbers() {
		for _, s := range rightShapes() {
			wantNone(t, "Fill of no rational", api.ErrArg)(tensor.Fill(s, k))
		}
	}
}

// P5.1, P1, R2: of what is no tensor all else tells ErrArg, ahead of ErrShape.
func TestWrongTensors(t *testing.T) {
	right := []api.Tensor{of(nil, "1"), of([]int{2, 3}, "1 2 3 4 5 6"), of([]int{1}, "0")}
	for _, a := range wrongTensors() {
		for _, op := range []string{"add", "sub", "mul", "", "max"} {
			for _, b := range right {
				wantNone(t, "Zip with none", api.ErrArg)(tensor.Zip(op, a, b))
				wantNone(t, "Zip with none", api.ErrArg)(tensor.Zip(op, b, a))
			}
			wantNone(t, "Zip of none", api.ErrArg)(tensor.Zip(op, a, a))
		}
		for _, k := range []string{"1", "0", "2/4", ""} {
			wantNone(t, "Scale of none", api.ErrArg)(tensor.Scale(a, k))
		}
		for _, n := range []int{math.MinInt, -1, 0, 1, 6, 7, math.MaxInt} {
			wantNone(t, "Power of none", api.ErrArg)(tensor.Power(a, n))
		}
		if k, e := tensor.Sum(a); k != "" || e != api.ErrArg {
			t.Errorf("Sum of %.200v: %q, %d", a, k, e)
		}
	}
}

// P5.2: by hand, the document's example first.
func TestByHand(t *testing.T) {
	two := []int{2}
	wantTensor(t, "add", of(two, "3/2 5"))(tensor.Zip("add", of(two, "1 2"), of(two, "1/2 3")))
	wantTensor(t, "sub", of(two, "1/2 -1"))(tensor.Zip("sub", of(two, "1 2"), of(two, "1/2 3")))
	wantTensor(t, "mul", of(two, "1/2 6"))(tensor.Zip("mul", of(two, "1 2"), of(two, "1/2 3")))
	wantTensor(t, "mul of none", of(nil, "-1"))(tensor.Zip("mul", of(nil, "-3/2"), of([]int{}, "2/3")))
	wantTensor(t, "scale", of([]int{2, 1}, "-1/3 2"))(tensor.Scale(of([]int{2, 1}, "1/2 -3"), "-2/3"))
	wantTensor(t, "scale by 0", of([]int{1, 2}, "0 0"))(tensor.Scale(of([]int{1, 2}, "1/2 -3"), "0"))
	wantTensor(t, "power 3", of([]int{3}, "1/8 -27 0"))(tensor.Power(of([]int{3}, "1/2 -3 0"), 3))
	wantTensor(t, "power 0", of([]int{3}, "1 1 1"))(tensor.Power(of([]int{3}, "1/2 -3 0"), 0))
	wantTensor(t, "power 1", of([]int{3}, "1/2 -3 0"))(tensor.Power(of([]int{3}, "1/2 -3 0"), 1))
	wantTensor(t, "power 6", of([]int{3}, "1/64 729 0"))(tensor.Power(of([]int{3}, "1/2 -3 0"), 6))
	for _, c := range []struct {
		a    api.Tensor
		want string
	}{
		{of([]int{2, 1}, "1/2 -3"), "-5/2"}, {of(nil, "-7/3"), "-7/3"}, {of([]int{1, 1, 1, 1}, "0"), "0"}, {of([]int{3}, "1/2 1/3 1/6"), "1"},
		{of([]int{2, 2}, "1 2 3 4"), "10"}, {of([]int{2}, "1/3 -1/3"), "0"}, {api.Tensor{Shape: []int{8, 8}, Data: slices.Repeat([]string{"1/64"}, 64)}, "1"},
	} {
		if got, e := tensor.Sum(c.a); got != c.want || e != api.OK {
			t.Errorf("Sum(%v): %q, %d", c.a, got, e)
		}
	}
}

// P5.2: ErrArg of operations that are none, even of shapes that are unlike.
func TestNoOperation(t *testing.T) {
	a, b := of([]int{2}, "1 2"), of([]int{1, 2}, "3 4")
	for _, op := range []string{"", " ", "add ", " add", "Add", "ADD", "ad", "addd", "add\x00", "addsub", "add,sub", "+", "-", "*", "quo", "div", "neg", "max", "above",
		"scale", "power", "sum", "matmul", "\xff", strings.Repeat("add", 1000)} {
		wantNone(t, "Zip "+op, api.ErrArg)(tensor.Zip(op, a, a))
		wantNone(t, "Zip "+op, api.ErrArg)(tensor.Zip(op, a, b))
	}
}

// P5.2: ErrShape of shapes that are unlike, though their sizes be the same.
func TestUnlikeShapes(t *testing.T) {
	source := &numbers{state: 2}
	for _, s := range rightShapes() {
		for _, u := range rightShapes() {
			if slices.Equal(s, u) {
				continue
			}
			for _, op := range []string{"add", "sub", "mul"} {
				wantNone(t, "Zip of unlike shapes", api.ErrShape)(tensor.Zip(op, source.tensor(s), source.tensor(u)))
			}
		}
	}
}

// P5.2: Scale by what is no rational, and Power by what layer 3 refuses.
func TestWrongFactorsAndPowers(t *testing.T) {
	source := &numbers{state: 3}
	for _, s := range rightShapes() {
		a := source.tensor(s)
		for _, k := range wrongNumbers() {
			wantNone(t, "Scale by "+k, api.ErrArg)(tensor.Scale(a, k))
		}
		for _, n := range []int{math.MinInt, math.MinInt + 6, -1 << 32, -2, -1, 7, 8, 1 << 32, 1<<32 + 1, math.MaxInt} {
			wantNone(t, "Power", api.ErrArg)(tensor.Power(a, n))
		}
	}
	for n := -20; n <= 20; n++ {
		_, want := rat.Power("2", n)
		if _, e := tensor.Power(of(nil, "2"), n); e != want {
			t.Errorf("Power by %d: error %d, layer 3's %d", n, e, want)
		}
	}
}

// P5.2: held against math/big, number by number, for shapes of all lengths.
func TestNumberByNumber(t *testing.T) {
	source := &numbers{state: 4}
	ways := map[string]func(z, x, y *big.Rat) *big.Rat{"add": (*big.Rat).Add, "sub": (*big.Rat).Sub, "mul": (*big.Rat).Mul}
	for range 20 {
		for _, s := range rightShapes() {
			a, b, k := source.tensor(s), source.tensor(s), source.next()
			want := api.Tensor{Shape: s, Data: make([]string, len(a.Data))}
			for op, way := range ways {
				for i := range a.Data {
					want.Data[i] = way(new(big.Rat), toBig(t, a.Data[i]), toBig(t, b.Data[i])).RatString()
				}
				wantTensor(t, op, want)(tensor.Zip(op, a, b))
			}
			for i := range a.Data {
				want.Data[i] = ways["mul"](new(big.Rat), toBig(t, a.Data[i]), toBig(t, k)).RatString()
			}
			wantTensor(t, "Scale", want)(tensor.Scale(a, k))
			checkPowers(t, a)
			checkSum(t, a)
		}
	}
}

func checkPowers(t *testing.T, a api.Tensor) {
	t.Helper()
	want := api.Tensor{Shape: a.Shape, Data: slices.Repeat([]string{"1"}, len(a.Data))}
	for n := range 7 {
		wantTensor(t, "Power", want)(tensor.Power(a, n))
		for i, k := range want.Data {
			want.Data[i] = new(big.Rat).Mul(toBig(t, k), toBig(t, a.Data[i])).RatString()
		}
	}
}

func checkSum(t *testing.T, a api.Tensor) {
	t.Helper()
	total := new(big.Rat)
	for _, k := range a.Data {
		total.Add(total, toBig(t, k))
	}
	if got, e := tensor.Sum(a); got != total.RatString() || e != api.OK {
		t.Errorf("Sum(%v): %q, %d", a, got, e)
	}
}

// calls fails the test at an error.
type calls struct {
	t *testing.T
}

func (c calls) right(a api.Tensor, e api.Errno) api.Tensor {
	c.t.Helper()
	if e != api.OK || !tensor.Right(a) {
		c.t.Fatalf("%v, error %d", a, e)
	}
	return a
}

func (c calls) zip(op string, a, b api.Tensor) api.Tensor {
	c.t.Helper()
	return c.right(tensor.Zip(op, a, b))
}

// P5.3: the laws of layer 3, of whole tensors.
func TestLaws(t *testing.T) {
	is := calls{t}
	source := &numbers{state: 5}
	for _, s := range rightShapes() {
		a, b, c, k := source.tensor(s), source.tensor(s), source.tensor(s), source.next()
		none, one, all := is.right(tensor.Fill(s, "0")), is.right(tensor.Fill(s, "1")), is.right(tensor.Fill(s, k))
		squared := is.right(tensor.Power(a, 2))
		for i, law := range [][2]api.Tensor{
			{is.zip("add", a, b), is.zip("add", b, a)},
			{is.zip("mul", a, b), is.zip("mul", b, a)},
			{is.zip("add", is.zip("add", a, b), c), is.zip("add", a, is.zip("add", b, c))},
			{is.zip("mul", is.zip("mul", a, b), c), is.zip("mul", a, is.zip("mul", b, c))},
			{is.zip("mul", is.zip("add", a, b), c), is.zip("add", is.zip("mul", a, c), is.zip("mul", b, c))},
			{is.zip("sub", is.zip("add", a, b), b), a},
			{is.zip("sub", a, b), is.zip("add", a, is.right(tensor.Scale(b, "-1")))},
			{is.zip("add", a, none), a}, {is.zip("mul", a, one), a}, {is.zip("mul", a, none), none}, {is.zip("sub", a, a), none},
			{is.right(tensor.Scale(a, k)), is.zip("mul", a, all)},
			{is.right(tensor.Scale(is.zip("add", a, b), k)), is.zip("add", is.right(tensor.Scale(a, k)), is.right(tensor.Scale(b, k)))},
			{squared, is.zip("mul", a, a)}, {is.right(tensor.Power(a, 6)), is.right(tensor.Power(squared, 3))}, {is.right(tensor.Power(a, 0)), one},
		} {
			if !same(law[0], law[1]) {
				t.Errorf("law %d of %v, %v, %v: %v, %v", i, a, b, c, law[0], law[1])
			}
		}
	}
}

// P5.3: the sum of sums is the sum of the sums, and a factor may be taken out.
func TestLawsOfSums(t *testing.T) {
	is := calls{t}
	source := &numbers{state: 6}
	sum := func(a api.Tensor) string {
		t.Helper()
		k, e := tensor.Sum(a)
		if e != api.OK {
			t.Fatalf("Sum(%v): %d", a, e)
		}
		return k
	}
	for _, s := range rightShapes() {
		a, b, k := source.tensor(s), source.tensor(s), source.next()
		if want, _ := rat.Add(sum(a), sum(b)); sum(is.zip("add", a, b)) != want {
			t.Errorf("the sum of %v and %v is not %s", a, b, want)
		}
		if want, _ := rat.Mul(sum(a), k); sum(is.right(tensor.Scale(a, k))) != want {
			t.Errorf("the sum of %v, times %s, is not %s", a, k, want)
		}
	}
}

// R1: what is handed in stays as it was, and no answer shares memory with it.
func TestNothingIsShared(t *testing.T) {
	a, b := of([]int{2, 2}, "1 -2 1/3 0"), of([]int{2, 2}, "1/2 5 -1/3 7")
	s := []int{2, 2}
	keptA, keptB := of([]int{2, 2}, "1 -2 1/3 0"), of([]int{2, 2}, "1/2 5 -1/3 7")
	is := calls{t}
	for i, got := range []api.Tensor{
		is.zip("add", a, b), is.zip("sub", a, b), is.zip("mul", a, b), is.zip("add", a, a), is.right(tensor.Scale(a, "1")),
		is.right(tensor.Power(a, 1)), is.right(tensor.Fill(s, "1")), is.right(tensor.Fill(a.Shape, "1")),
	} {
		for at := range got.Shape {
			got.Shape[at] = -1
		}
		for at := range got.Data {
			got.Data[at] = "x"
		}
		if !same(a, keptA) || !same(b, keptB) || !slices.Equal(s, []int{2, 2}) {
			t.Fatalf("answer %d shares memory with what was handed in", i)
		}
	}
	if _, e := tensor.Sum(a); e != api.OK || !same(a, keptA) {
		t.Error("Sum changed what it was handed")
	}
}

// R1, R4: nothing behind a list's end is read or written.
func TestListsWithRoom(t *testing.T) {
	room := of([]int{2, 9, 9}, "1 2 x y")
	a := api.Tensor{Shape: room.Shape[:1], Data: room.Data[:2]}
	is := calls{t}
	wantTensor(t, "add", of([]int{2}, "2 4"))(tensor.Zip("add", a, a))
	is.right(tensor.Fill(room.Shape[:1], "3"))
	is.right(tensor.Scale(a, "3"))
	is.right(tensor.Power(a, 3))
	if k, e := tensor.Sum(a); k != "3" || e != api.OK {
		t.Errorf("Sum: %q, %d", k, e)
	}
	if !same(room, of([]int{2, 9, 9}, "1 2 x y")) {
		t.Errorf("what stood behind the list is %v", room)
	}
}

// R3, R4: the same is answered again, whatever was asked, and refused, in between.
func TestSameAgain(t *testing.T) {
	ask := func() string {
		is := calls{t}
		source := &numbers{state: 7}
		var answers []string
		for _, s := range rightShapes() {
			a, b := source.tensor(s), source.tensor(s)
			for _, op := range []string{"add", "sub", "mul"} {
				answers = append(answers, is.zip(op, a, b).Data...)
			}
			k, _ := tensor.Sum(a)
			answers = append(answers, k)
		}
		return strings.Join(answers, " ")
	}
	first := ask()
	for _, a := range wrongTensors() {
		tensor.Zip("add", a, a)
		tensor.Zip("none", a, a)
		tensor.Power(a, 9)
	}
	if ask() != first {
		t.Error("another answer at the second time")
	}
}

// R5: a list of none is the same whether it is nil or empty.
func TestNilIsEmpty(t *testing.T) {
	empty, none := of([]int{}, "2/3"), of(nil, "2/3")
	for _, op := range []string{"add", "sub", "mul"} {
		want := calls{t}.zip(op, none, none)
		wantTensor(t, op, want)(tensor.Zip(op, empty, none))
		wantTensor(t, op, want)(tensor.Zip(op, none, empty))
		wantTensor(t, op, want)(tensor.Zip(op, empty, empty))
	}
}

// P5.2, P1: numbers of as many digits as are promised (2^16).
func TestManyDigits(t *testing.T) {
	const most = 1 << 16
	long := strings.Repeat("7318204659", most/20) + "1/1" + strings.Repeat("0", most/2-8)
	a := of([]int{2}, long+" -"+long)
	wantTensor(t, "add", of([]int{2}, "0 0"))(tensor.Zip("add", a, of([]int{2}, "-"+long+" "+long)))
	wantTensor(t, "sub", of([]int{2}, "0 0"))(tensor.Zip("sub", a, a))
	wantTensor(t, "power", a)(tensor.Power(a, 1))
	wantTensor(t, "scale", of([]int{2}, "-"+long+" "+long))(tensor.Scale(a, "-1"))
	if k, e := tensor.Sum(a); k != "0" || e != api.OK {
		t.Errorf("Sum: %.60q, %d", k, e)
	}
	if tensor.Right(of(nil, long+"0")) != rat.Right(long+"0") || tensor.Right(of(nil, long+"x")) {
		t.Error("Right of many digits")
	}
}
