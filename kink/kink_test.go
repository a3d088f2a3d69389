package kink_test

import (
	"math"
	"math/big"
	"slices"
	"strings"
	"testing"

	"tapewright/api"
	"tapewright/kink"
	"tapewright/tensor"
)

// ofOne and ofTwo are the layer's calls that answer a tensor.
type (
	ofOne func(a api.Tensor) (api.Tensor, api.Errno)
	ofTwo func(a, b api.Tensor) (api.Tensor, api.Errno)
)

func callsOfOne() map[string]ofOne {
	return map[string]ofOne{"Relu": kink.Relu, "Abs": kink.Abs, "Step": kink.Step, "Sign": kink.Sign}
}

func callsOfTwo() map[string]ofTwo {
	return map[string]ofTwo{"Max": kink.Max, "Above": kink.Above}
}

// of has a tensor's numbers as words.
func of(s []int, words string) api.Tensor {
	return api.Tensor{Shape: s, Data: strings.Fields(words)}
}

// wrongNumbers are no rationals, though some of them look like 0 or have a sign.
func wrongNumbers() []string {
	return []string{"", " ", "-", "/", "-0", "+0", "00", "-00", "0/1", "0/2", "-0/2", "0.0", "01", "-01", "+1", "--1", "1 ", " -1", "a", "-a", "1.5", "1e3", "1/1", "1/0",
		"-1/0", "2/4", "-2/4", "4/2", "1/-2", "1/02", "1/", "/2", "-/2", "1/2/3", "\x00", "1/\xff", "\u0661", "\u00bd", "\u22121", strings.Repeat("9", 100) + "/3"}
}

// wrongShapes are none, by a number, by their length, or by their product.
func wrongShapes() [][]int {
	return [][]int{{0}, {-1}, {65}, {math.MinInt}, {math.MaxInt}, {2, 0}, {0, 2}, {-1, -1}, {-2, -3}, {64, 2}, {8, 9}, {5, 13},
		{4, 4, 5}, {3, 3, 3, 3}, {1, 1, 1, 1, 1}, {1, 1, 1, 2, 3}, {1 << 32, 1 << 32}, {math.MinInt, -1}, {math.MaxInt, 2}, slices.Repeat([]int{1}, 1<<16)}
}

// wrongTensors are none, by their shape, by how many numbers they have, or by one of these.
func wrongTensors() []api.Tensor {
	ones := func(n int) []string { return slices.Repeat([]string{"1"}, n) }
	list := []api.Tensor{
		{}, {Shape: []int{}, Data: []string{}}, {Data: ones(2)}, {Shape: []int{1}}, {Shape: []int{1}, Data: ones(2)}, {Shape: []int{1, 1}}, {Shape: []int{2}, Data: ones(1)},
		{Shape: []int{2, 3}, Data: ones(5)}, {Shape: []int{2, 3}, Data: ones(7)}, {Shape: []int{64}, Data: ones(63)}, {Shape: []int{8, 8}, Data: ones(65)},
		{Shape: []int{8, 8}, Data: ones(1 << 16)}, {Shape: []int{64, 1}, Data: make([]string, 64)},
	}
	for _, s := range wrongShapes() {
		for _, n := range []int{0, 1, 2, 6, 64, 65, 72, 81, 128} {
			list = append(list, api.Tensor{Shape: s, Data: ones(n)}, api.Tensor{Shape: s, Data: slices.Repeat([]string{"0"}, n)})
		}
	}
	for _, k := range wrongNumbers() {
		list = append(list, api.Tensor{Data: []string{k}})
		for at := range 6 {
			data := strings.Fields("1 0 -1/2 0 1 -3")
			data[at] = k
			list = append(list, api.Tensor{Shape: []int{2, 3}, Data: data}, api.Tensor{Shape: []int{6}, Data: data})
		}
	}
	return list
}

// rightShapes are some of each length, of size 64 among them, and some of one size.
func rightShapes() [][]int {
	return [][]int{nil, {1}, {2}, {6}, {63}, {64}, {1, 1}, {2, 1}, {1, 2}, {2, 3}, {3, 2}, {6, 1}, {8, 8}, {64, 1}, {1, 64}, {1, 1, 1}, {1, 2, 3}, {2, 3, 4},
		{1, 1, 64}, {1, 1, 1, 1}, {1, 2, 1, 3}, {2, 2, 4, 4}, {3, 3, 7, 1}}
}

// numbers is a source of rationals that is the same at each run.
type numbers struct {
	state uint64
}

func (n *numbers) below(limit int) int {
	n.state = n.state*6364136223846793005 + 1442695040888963407
	return int(n.state>>33) % limit
}

// odd are 0, numbers close to it and to one another, and great ones, on both sides.
func odd() []string {
	list := []string{"0"}
	for _, k := range strings.Fields("1 2 1/2 1/3 2/3 1000000000/999999999 999999999/1000000000 18446744073709551616 18446744073709551615 1/18446744073709551616 " +
		"1/18446744073709551615 123456789012345678901234567890/17 123456789012345678901234567891/17 10 9 99/10") {
		list = append(list, k, "-"+k)
	}
	return list
}

func (n *numbers) next() string {
	list := odd()
	if at := n.below(2 * len(list)); at < len(list) {
		return list[at]
	}
	return big.NewRat(int64(n.below(13)-6), int64(1+n.below(6))).RatString()
}

func size(s []int) int {
	product := 1
	for _, k := range s {
		product *= k
	}
	return product
}

// tensor is of a right shape.
func (n *numbers) tensor(s []int) api.Tensor {
	t := api.Tensor{Shape: slices.Clone(s)}
	for range size(s) {
		t.Data = append(t.Data, n.next())
	}
	return t
}

func same(a, b api.Tensor) bool {
	return slices.Equal(a.Shape, b.Shape) && slices.Equal(a.Data, b.Data)
}

func wantTensor(t *testing.T, what string, want api.Tensor) func(got api.Tensor, e api.Errno) {
	return func(got api.Tensor, e api.Errno) {
		t.Helper()
		if e != api.OK || !same(got, want) {
			t.Errorf("%s: %.300v, error %d, not %.300v", what, got, e, want)
		}
	}
}

// wantNone asks for an error, and for nothing beside it.
func wantNone(t *testing.T, what string, want api.Errno) func(got api.Tensor, e api.Errno) {
	return func(got api.Tensor, e api.Errno) {
		t.Helper()
		if e != want || got.Shape != nil || got.Data != nil {
			t.Errorf("%s: %.200v, error %d, not %d", what, got, e, want)
		}
	}
}

func wantFlat(t *testing.T, a api.Tensor, want bool, wantError api.Errno) {
	t.Helper()
	if got, e := kink.Flat(a); got != want || e != wantError {
		t.Errorf("Flat of %.300v: %v, error %d, not %v, %d", a, got, e, want, wantError)
	}
}

func toBig(t *testing.T, s string) *big.Rat {
	t.Helper()
	x, ok := new(big.Rat).SetString(s)
	if !ok {
		t.Fatalf("%.60q is no number", s)
	}
	return x
}

// calls fails the test at an error.
type calls struct {
	t *testing.T
}

func (c calls) right(a api.Tensor, e api.Errno) api.Tensor {
	c.t.Helper()
	if e != api.OK || !tensor.Right(a) {
		c.t.Fatalf("%.300v, error %d", a, e)
	}
	return a
}

func (c calls) zip(op string, a, b api.Tensor) api.Tensor {
	c.t.Helper()
	return c.right(tensor.Zip(op, a, b))
}

// P7.1: by hand, the document's example first.
func TestByHand(t *testing.T) {
	two, five := []int{2}, []int{5}
	wantTensor(t, "Relu", of(two, "0 2"))(kink.Relu(of(two, "-1 2")))
	a, b := of(five, "-3/2 -1 0 1/3 7"), of(five, "-4/3 -1 1/5 0 -8")
	wantTensor(t, "Relu", of(five, "0 0 0 1/3 7"))(kink.Relu(a))
	wantTensor(t, "Abs", of(five, "3/2 1 0 1/3 7"))(kink.Abs(a))
	wantTensor(t, "Step", of(five, "0 0 0 1 1"))(kink.Step(a))
	wantTensor(t, "Sign", of(five, "-1 -1 0 1 1"))(kink.Sign(a))
	wantTensor(t, "Max", of(five, "-4/3 -1 1/5 1/3 7"))(kink.Max(a, b))
	wantTensor(t, "Max", of(five, "-4/3 -1 1/5 1/3 7"))(kink.Max(b, a))
	wantTensor(t, "Above", of(five, "0 1 0 1 1"))(kink.Above(a, b))
	wantTensor(t, "Above", of(five, "1 1 1 0 0"))(kink.Above(b, a))
	wantFlat(t, a, true, api.OK)
	wantFlat(t, of(two, "-1 2"), false, api.OK)
}

// P7.1: the sides of the kink: above 0, below 0, and 0, which no step and no sign counts.
func TestSides(t *testing.T) {
	for _, c := range []struct{ k, relu, abs, step, sign string }{
		{"0", "0", "0", "0", "0"},
		{"1", "1", "1", "1", "1"},
		{"-1", "0", "1", "0", "-1"},
		{"1/18446744073709551616", "1/18446744073709551616", "1/18446744073709551616", "1", "1"},
		{"-1/18446744073709551616", "0", "1/18446744073709551616", "0", "-1"},
		{"18446744073709551616/3", "18446744073709551616/3", "18446744073709551616/3", "1", "1"},
		{"-18446744073709551616/3", "0", "18446744073709551616/3", "0", "-1"},
	} {
		for _, s := range rightShapes() {
			all := func(k string) api.Tensor { return api.Tensor{Shape: s, Data: slices.Repeat([]string{k}, size(s))} }
			wantTensor(t, "Relu", all(c.relu))(kink.Relu(all(c.k)))
			wantTensor(t, "Abs", all(c.abs))(kink.Abs(all(c.k)))
			wantTensor(t, "Step", all(c.step))(kink.Step(all(c.k)))
			wantTensor(t, "Sign", all(c.sign))(kink.Sign(all(c.k)))
			wantFlat(t, all(c.k), c.k == "0", api.OK)
			wantTensor(t, "Max of equal ones", all(c.k))(kink.Max(all(c.k), all(c.k)))
			wantTensor(t, "Above of equal ones", all("1"))(kink.Above(all(c.k), all(c.k)))
		}
	}
}

// P7.1: each of the odd numbers against each, by math/big: numbers are compared, not their texts.
func TestPairs(t *testing.T) {
	for _, x := range odd() {
		for _, y := range odd() {
			greater, above := x, "1"
			if toBig(t, x).Cmp(toBig(t, y)) < 0 {
				greater, above = y, "0"
			}
			wantTensor(t, "Max of "+x+", "+y, of(nil, greater))(kink.Max(of(nil, x), of(nil, y)))
			wantTensor(t, "Above of "+x+", "+y, of(nil, above))(kink.Above(of(nil, x), of(nil, y)))
		}
	}
}

// P7.1: one 0 is found at each place of the greatest shape, and where it is the only number.
func TestFlatAtEachPlace(t *testing.T) {
	for _, k := range []string{"1", "-1", "10", "1/10", "-7/100"} {
		for _, s := range rightShapes() {
			data := slices.Repeat([]string{k}, size(s))
			wantFlat(t, api.Tensor{Shape: s, Data: data}, false, api.OK)
			for at := range data {
				data[at] = "0"
				wantFlat(t, api.Tensor{Shape: s, Data: data}, true, api.OK)
				data[at] = k
			}
		}
	}
}

// P7.1: held against math/big, number by number, for shapes of all lengths.
func TestNumberByNumber(t *testing.T) {
	source := &numbers{state: 1}
	for range 10 {
		for _, s := range rightShapes() {
			a, b := source.tensor(s), source.tensor(s)
			want := map[string]api.Tensor{}
			put := func(name string, k *big.Rat) {
				w := want[name]
				want[name] = api.Tensor{Shape: s, Data: append(w.Data, k.RatString())}
			}
			flat := false
			for at := range a.Data {
				x, y := toBig(t, a.Data[at]), toBig(t, b.Data[at])
				side, order := x.Sign(), x.Cmp(y)
				flat = flat || side == 0
				put("Abs", new(big.Rat).Abs(x))
				put("Sign", big.NewRat(int64(side), 1))
				put("Step", big.NewRat(int64(max(side, 0)), 1))
				put("Relu", new(big.Rat).Mul(x, big.NewRat(int64(max(side, 0)), 1)))
				put("Above", big.NewRat(int64(min(order+1, 1)), 1))
				put("Max", []*big.Rat{y, x, x}[order+1])
			}
			for name, call := range callsOfOne() {
				wantTensor(t, name, want[name])(call(a))
			}
			for name, call := range callsOfTwo() {
				wantTensor(t, name, want[name])(call(a, b))
			}
			wantFlat(t, a, flat, api.OK)
		}
	}
}

// P7.1, P1, R2: of what is no tensor all tell ErrArg, ahead of ErrShape.
func TestWrongTensors(t *testing.T) {
	right := []api.Tensor{of(nil, "1"), of([]int{1}, "0"), of([]int{6}, "1 2 3 4 5 6"), of([]int{2, 3}, "1 0 3 4 -5 6"), of([]int{1, 1, 1}, "-1/2")}
	for _, a := range wrongTensors() {
		for name, call := range callsOfOne() {
			wantNone(t, name+" of none", api.ErrArg)(call(a))
		}
		for name, call := range callsOfTwo() {
			for _, b := range right {
				wantNone(t, name+" with none", api.ErrArg)(call(a, b))
				wantNone(t, name+" with none", api.ErrArg)(call(b, a))
			}
			wantNone(t, name+" of none", api.ErrArg)(call(a, a))
		}
		wantFlat(t, a, false, api.ErrArg)
	}
}

// P7.1: ErrShape of shapes that are unlike, though their sizes be the same.
func TestUnlikeShapes(t *testing.T) {
	source := &numbers{state: 2}
	for _, s := range rightShapes() {
		for _, u := range rightShapes() {
			if slices.Equal(s, u) {
				continue
			}
			for name, call := range callsOfTwo() {
				wantNone(t, name+" of unlike shapes", api.ErrShape)(call(source.tensor(s), source.tensor(u)))
			}
		}
	}
}

// P7.2: Relu is Step times it, Abs is Sign times it, and Max is Above times a, and what is left of 1 times b.
func TestWhatFollows(t *testing.T) {
	is := calls{t}
	source := &numbers{state: 3}
	for range 10 {
		for _, s := range rightShapes() {
			a, b, one := source.tensor(s), source.tensor(s), is.right(tensor.Fill(s, "1"))
			for at := range a.Data {
				if source.below(4) == 0 { // so that some are equal
					b.Data[at] = a.Data[at]
				}
			}
			above := is.right(kink.Above(a, b))
			for i, law := range [][2]api.Tensor{
				{is.right(kink.Relu(a)), is.zip("mul", is.right(kink.Step(a)), a)},
				{is.right(kink.Abs(a)), is.zip("mul", is.right(kink.Sign(a)), a)},
				{is.right(kink.Max(a, b)), is.zip("add", is.zip("mul", above, a), is.zip("mul", is.zip("sub", one, above), b))},
			} {
				if !same(law[0], law[1]) {
					t.Errorf("law %d of %v, %v: %v, %v", i, a, b, law[0], law[1])
				}
			}
		}
	}
}

// P7.1: how the calls go together.
func TestLaws(t *testing.T) {
	is := calls{t}
	source := &numbers{state: 4}
	for range 10 {
		for _, s := range rightShapes() {
			a, b, none := source.tensor(s), source.tensor(s), is.right(tensor.Fill(s, "0"))
			less, relu, abs := is.right(tensor.Scale(a, "-1")), is.right(kink.Relu(a)), is.right(kink.Abs(a))
			for i, law := range [][2]api.Tensor{
				{relu, is.right(kink.Max(a, none))}, {abs, is.right(kink.Max(a, less))},
				{abs, is.zip("add", relu, is.right(kink.Relu(less)))}, {a, is.zip("sub", relu, is.right(kink.Relu(less)))},
				{abs, is.right(kink.Abs(less))}, {abs, is.right(kink.Abs(abs))}, {relu, is.right(kink.Relu(relu))},
				{is.right(kink.Sign(a)), is.zip("sub", is.right(kink.Step(a)), is.right(kink.Step(less)))},
				{is.right(kink.Max(a, b)), is.right(kink.Max(b, a))},
				{is.right(kink.Above(a, b)), is.right(kink.Above(is.zip("sub", a, b), none))},
			} {
				if !same(law[0], law[1]) {
					t.Errorf("law %d of %v, %v: %v, %v", i, a, b, law[0], law[1])
				}
			}
		}
	}
}

// R1: what is handed in stays as it was, and no answer shares memory with it.
func TestNothingIsShared(t *testing.T) {
	a, b := of([]int{2, 2}, "1 -2 1/3 0"), of([]int{2, 2}, "1/2 5 -1/3 0")
	up := of([]int{1, 2}, "1 2") // its own Relu and Abs
	is := calls{t}
	for i, got := range []api.Tensor{
		is.right(kink.Relu(a)), is.right(kink.Abs(a)), is.right(kink.Step(a)), is.right(kink.Sign(a)), is.right(kink.Max(a, b)), is.right(kink.Above(a, b)),
		is.right(kink.Relu(up)), is.right(kink.Abs(up)), is.right(kink.Max(up, up)), is.right(kink.Above(up, up)),
	} {
		for at := range got.Shape {
			got.Shape[at] = -1
		}
		for at := range got.Data {
			got.Data[at] = "x"
		}
		if !same(a, of([]int{2, 2}, "1 -2 1/3 0")) || !same(b, of([]int{2, 2}, "1/2 5 -1/3 0")) || !same(up, of([]int{1, 2}, "1 2")) {
			t.Fatalf("answer %d shares memory with what was handed in", i)
		}
	}
	if wantFlat(t, a, true, api.OK); !same(a, of([]int{2, 2}, "1 -2 1/3 0")) {
		t.Errorf("Flat turned what was handed in: %v", a)
	}
}

// R1, R4: nothing behind a list's end is read or written.
func TestListsWithRoom(t *testing.T) {
	room := of([]int{2, 9}, "1 -2 x 0")
	a := api.Tensor{Shape: room.Shape[:1], Data: room.Data[:2]}
	for _, c := range []struct{ name, want string }{{"Relu", "1 0"}, {"Abs", "1 2"}, {"Step", "1 0"}, {"Sign", "1 -1"}} {
		got := calls{t}.right(callsOfOne()[c.name](a))
		if !same(got, of([]int{2}, c.want)) {
			t.Errorf("%s: %v", c.name, got)
		}
		_, _ = append(got.Shape, 7), append(got.Data, "y") // an answer that shares would write into the room
	}
	wantTensor(t, "Max", of([]int{2}, "1 0"))(kink.Max(a, of([]int{2}, "-3 0")))
	wantTensor(t, "Above", of([]int{2}, "1 0"))(kink.Above(a, of([]int{2}, "-3 0")))
	wantFlat(t, a, false, api.OK)
	if !same(room, of([]int{2, 9}, "1 -2 x 0")) {
		t.Errorf("what stood behind the list is %v", room)
	}
}

// R3, R4: the same is answered again, whatever was asked, and refused, in between.
func TestSameAgain(t *testing.T) {
	ask := func() string {
		is := calls{t}
		source := &numbers{state: 5}
		var answers []string
		for range 10 {
			a, b := source.tensor([]int{3, 4}), source.tensor([]int{3, 4})
			for _, got := range []api.Tensor{is.right(kink.Relu(a)), is.right(kink.Abs(a)), is.right(kink.Step(a)), is.right(kink.Sign(a)), is.right(kink.Max(a, b)), is.right(kink.Above(a, b))} {
				answers = append(answers, got.Data...)
			}
		}
		return strings.Join(answers, " ")
	}
	first := ask()
	for _, a := range wrongTensors() {
		for _, call := range callsOfOne() {
			call(a)
		}
		for _, call := range callsOfTwo() {
			call(a, a)
			call(of(nil, "1"), of([]int{1}, "1"))
		}
		kink.Flat(a)
	}
	if ask() != first {
		t.Error("another answer at the second time")
	}
}

// R5: a list of none is the same whether it is nil or empty.
func TestNilIsEmpty(t *testing.T) {
	null, empty := of(nil, "-2/3"), of([]int{}, "-2/3")
	for _, a := range []api.Tensor{null, empty} {
		wantTensor(t, "Relu", of(nil, "0"))(kink.Relu(a))
		wantTensor(t, "Abs", of(nil, "2/3"))(kink.Abs(a))
		wantTensor(t, "Step", of(nil, "0"))(kink.Step(a))
		wantTensor(t, "Sign", of(nil, "-1"))(kink.Sign(a))
		wantFlat(t, a, false, api.OK)
		for _, b := range []api.Tensor{null, empty} {
			wantTensor(t, "Max", of(nil, "-2/3"))(kink.Max(a, b))
			wantTensor(t, "Above", of(nil, "1"))(kink.Above(a, b))
		}
	}
}

// P7.1, P1: numbers of as many digits as are promised (2^16), and two whose tops differ in the last one.
func TestManyDigits(t *testing.T) {
	const most = 1 << 16
	top, under := strings.Repeat("7318204659", most/20), "/1"+strings.Repeat("0", most/2-8)
	little, great := top+"1"+under, top+"3"+under
	a, b := of([]int{3}, little+" -"+little+" "+little), of([]int{3}, great+" -"+great+" "+little)
	wantTensor(t, "Relu", of([]int{3}, little+" 0 "+little))(kink.Relu(a))
	wantTensor(t, "Abs", of([]int{3}, little+" "+little+" "+little))(kink.Abs(a))
	wantTensor(t, "Step", of([]int{3}, "1 0 1"))(kink.Step(a))
	wantTensor(t, "Sign", of([]int{3}, "1 -1 1"))(kink.Sign(a))
	wantTensor(t, "Max", of([]int{3}, great+" -"+little+" "+little))(kink.Max(a, b))
	wantTensor(t, "Above", of([]int{3}, "0 1 1"))(kink.Above(a, b))
	wantFlat(t, a, false, api.OK)
}
