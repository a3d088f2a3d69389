package array_test

import (
	"math"
	"math/big"
	"slices"
	"strings"
	"testing"

	"tapewright/api"
	"tapewright/array"
	"tapewright/rat"
	"tapewright/tensor"
)

// of has a tensor's numbers as words.
func of(s []int, words string) api.Tensor {
	return api.Tensor{Shape: s, Data: strings.Fields(words)}
}

// wrongNumbers are no rationals.
func wrongNumbers() []string {
	return []string{"", " ", "-", "/", "-0", "01", "+1", "1 ", "a", "1.5", "0/2", "1/1", "1/0", "2/4", "4/2", "1/-2", "1/02", "1/", "/2", "1/2/3",
		"\x00", "1/\xff", "\u0661", "\u00bd", strings.Repeat("9", 100) + "/3"}
}

// wrongShapes are none, by a number, by their length, or by their product.
func wrongShapes() [][]int {
	return [][]int{{0}, {-1}, {65}, {math.MinInt}, {math.MaxInt}, {2, 0}, {0, 2}, {-1, -1}, {-2, -3}, {64, 2}, {8, 9}, {5, 13},
		{4, 4, 5}, {3, 3, 3, 3}, {1, 1, 1, 1, 1}, {1, 1, 1, 2, 3}, {1 << 32, 1 << 32}, {math.MinInt, -1}, {math.MaxInt, 2}, slices.Repeat([]int{1}, 1<<16)}
}

// wrongTensors are none, by their shape, by how many numbers they have, or by one of these.
func wrongTensors() []api.Tensor {
	ones := func(n int) []string { return slices.Repeat([]string{"1"}, n) }
	list := []api.Tensor{
		{}, {Shape: []int{}, Data: []string{}}, {Data: ones(2)}, {Shape: []int{1}}, {Shape: []int{1}, Data: ones(2)}, {Shape: []int{1, 1}}, {Shape: []int{1, 1}, Data: ones(2)},
		{Shape: []int{2}, Data: ones(1)}, {Shape: []int{2, 3}, Data: ones(5)}, {Shape: []int{2, 3}, Data: ones(7)}, {Shape: []int{3, 2}, Data: ones(5)},
		{Shape: []int{64}, Data: ones(63)}, {Shape: []int{8, 8}, Data: ones(63)}, {Shape: []int{8, 8}, Data: ones(65)}, {Shape: []int{8, 8}, Data: ones(1 << 16)},
		{Shape: []int{64, 1}, Data: make([]string, 64)},
	}
	for _, s := range wrongShapes() {
		for _, n := range []int{0, 1, 2, 6, 64, 65, 72, 81, 128} {
			list = append(list, api.Tensor{Shape: s, Data: ones(n)})
		}
	}
	for _, k := range wrongNumbers() {
		list = append(list, api.Tensor{Data: []string{k}})
		for at := range 6 {
			data := ones(6)
			data[at] = k
			list = append(list, api.Tensor{Shape: []int{2, 3}, Data: data}, api.Tensor{Shape: []int{6}, Data: data})
		}
	}
	return list
}

// rightShapes are some of each length, of size 64 among them.
func rightShapes() [][]int {
	return [][]int{nil, {}, {1}, {2}, {6}, {63}, {64}, {1, 1}, {2, 1}, {1, 2}, {2, 3}, {3, 2}, {6, 1}, {8, 8}, {64, 1}, {1, 64}, {7, 9}, {1, 1, 1}, {1, 2, 3}, {2, 3, 4},
		{1, 1, 64}, {1, 1, 1, 1}, {1, 2, 1, 3}, {2, 2, 4, 4}, {3, 3, 7, 1}}
}

// shapesInRows are all of two numbers.
func shapesInRows() [][]int {
	var list [][]int
	for rows := 1; rows <= api.MaxSize; rows++ {
		for columns := 1; rows*columns <= api.MaxSize; columns++ {
			list = append(list, []int{rows, columns})
		}
	}
	return list
}

// numbers is a source of rationals that is the same at each run.
type numbers struct {
	state uint64
}

func (n *numbers) below(limit int) int {
	n.state = n.state*6364136223846793005 + 1442695040888963407
	return int(n.state>>33) % limit
}

func (n *numbers) next() string {
	odd := strings.Fields("0 1 -1 18446744073709551616 -1/18446744073709551616 1000000000/999999999 -123456789012345678901234567890/17")
	if at := n.below(4 * len(odd)); at < len(odd) {
		return odd[at]
	}
	return big.NewRat(int64(n.below(41)-20), int64(1+n.below(12))).RatString()
}

func size(s []int) int {
	product := 1
	for _, k := range s {
		product *= k
	}
	return product
}

// tensor is of a right shape.
func (n *numbers) tensor(s []int) api.Tensor {
	t := api.Tensor{Shape: slices.Clone(s)}
	for range size(s) {
		t.Data = append(t.Data, n.next())
	}
	return t
}

// counted has the numbers from 1 on, no two of which are the same.
func counted(s []int) api.Tensor {
	t := api.Tensor{Shape: slices.Clone(s)}
	for at := range size(s) {
		t.Data = append(t.Data, big.NewInt(int64(at+1)).String())
	}
	return t
}

func same(a, b api.Tensor) bool {
	return slices.Equal(a.Shape, b.Shape) && slices.Equal(a.Data, b.Data)
}

func wantTensor(t *testing.T, what string, want api.Tensor) func(got api.Tensor, e api.Errno) {
	return func(got api.Tensor, e api.Errno) {
		t.Helper()
		if e != api.OK || !same(got, want) {
			t.Errorf("%s: %.300v, error %d, not %.300v", what, got, e, want)
		}
	}
}

// wantNone asks for an error, and for nothing beside it.
func wantNone(t *testing.T, what string, want api.Errno) func(got api.Tensor, e api.Errno) {
	return func(got api.Tensor, e api.Errno) {
		t.Helper()
		if e != want || got.Shape != nil || got.Data != nil {
			t.Errorf("%s: %.200v, error %d, not %d", what, got, e, want)
		}
	}
}

func toBig(t *testing.T, s string) *big.Rat {
	t.Helper()
	x, ok := new(big.Rat).SetString(s)
	if !ok {
		t.Fatalf("%.60q is no number", s)
	}
	return x
}

// calls fails the test at an error.
type calls struct {
	t *testing.T
}

func (c calls) right(a api.Tensor, e api.Errno) api.Tensor {
	c.t.Helper()
	if e != api.OK || !tensor.Right(a) {
		c.t.Fatalf("%v, error %d", a, e)
	}
	return a
}

func (c calls) product(a, b api.Tensor) api.Tensor {
	c.t.Helper()
	return c.right(array.MatMul(a, b))
}

func (c calls) turned(a api.Tensor) api.Tensor {
	c.t.Helper()
	return c.right(array.Transpose(a))
}

// P6.1, P6.2: by hand, the document's example first.
func TestByHand(t *testing.T) {
	wantTensor(t, "row by column", of([]int{1, 1}, "11"))(array.MatMul(of([]int{1, 2}, "1 2"), of([]int{2, 1}, "3 4")))
	wantTensor(t, "column by row", of([]int{2, 2}, "3 6 4 8"))(array.MatMul(of([]int{2, 1}, "3 4"), of([]int{1, 2}, "1 2")))
	wantTensor(t, "2 by 2", of([]int{2, 2}, "19 22 43 50"))(array.MatMul(of([]int{2, 2}, "1 2 3 4"), of([]int{2, 2}, "5 6 7 8")))
	wantTensor(t, "2 by 3 by 2", of([]int{2, 2}, "58 64 139 154"))(array.MatMul(of([]int{2, 3}, "1 2 3 4 5 6"), of([]int{3, 2}, "7 8 9 10 11 12")))
	wantTensor(t, "fractions", of([]int{1, 2}, "0 -5/12"))(array.MatMul(of([]int{1, 2}, "1/2 -1/3"), of([]int{2, 2}, "2/3 -1/2 1 1/2")))
	wantTensor(t, "one by one", of([]int{1, 1}, "-1"))(array.MatMul(of([]int{1, 1}, "3/2"), of([]int{1, 1}, "-2/3")))
	wantTensor(t, "transposed", of([]int{3, 2}, "1 4 2 5 3 6"))(array.Transpose(of([]int{2, 3}, "1 2 3 4 5 6")))
	wantTensor(t, "a row, transposed", of([]int{3, 1}, "1 2 3"))(array.Transpose(of([]int{1, 3}, "1 2 3")))
	wantTensor(t, "one, transposed", of([]int{1, 1}, "-1/2"))(array.Transpose(of([]int{1, 1}, "-1/2")))
	wantTensor(t, "reshaped", of([]int{3, 2}, "1 2 3 4 5 6"))(array.Reshape(of([]int{2, 3}, "1 2 3 4 5 6"), []int{3, 2}))
	wantTensor(t, "reshaped to none", of(nil, "1/2"))(array.Reshape(of([]int{1, 1}, "1/2"), nil))
	wantTensor(t, "total", of(nil, "21"))(array.Total(of([]int{2, 3}, "1 2 3 4 5 6")))
	wantTensor(t, "total of one", of(nil, "-7/3"))(array.Total(of(nil, "-7/3")))
	wantTensor(t, "total of fractions", of(nil, "1"))(array.Total(of([]int{3}, "1/2 1/3 1/6")))
	wantTensor(t, "spread", of([]int{2, 2}, "-1/2 -1/2 -1/2 -1/2"))(array.Spread(of(nil, "-1/2"), []int{2, 2}))
	wantTensor(t, "spread to none", of(nil, "5"))(array.Spread(of(nil, "5"), nil))
}

// P6.1, P1, R2: of what is no tensor all tell ErrArg, ahead of ErrShape.
func TestWrongTensors(t *testing.T) {
	right := []api.Tensor{of(nil, "1"), of([]int{6}, "1 2 3 4 5 6"), of([]int{2, 3}, "1 2 3 4 5 6"), of([]int{3, 2}, "1 2 3 4 5 6"), of([]int{1, 1}, "0"), of([]int{1, 1, 1}, "0")}
	for _, a := range wrongTensors() {
		for _, b := range right {
			wantNone(t, "MatMul with none", api.ErrArg)(array.MatMul(a, b))
			wantNone(t, "MatMul with none", api.ErrArg)(array.MatMul(b, a))
		}
		wantNone(t, "MatMul of none", api.ErrArg)(array.MatMul(a, a))
		wantNone(t, "Transpose of none", api.ErrArg)(array.Transpose(a))
		wantNone(t, "Total of none", api.ErrArg)(array.Total(a))
		for _, s := range append([][]int{a.Shape, nil, {2}, {6}, {2, 3}, {64}}, wrongShapes()...) {
			wantNone(t, "Reshape of none", api.ErrArg)(array.Reshape(a, s))
			wantNone(t, "Spread of none", api.ErrArg)(array.Spread(a, s))
		}
	}
}

// P6.1, R2: of s that is no shape Reshape and Spread tell ErrArg, ahead of ErrShape.
func TestWrongShapes(t *testing.T) {
	source := &numbers{state: 1}
	for _, s := range wrongShapes() {
		for _, u := range rightShapes() {
			a := source.tensor(u)
			wantNone(t, "Reshape to no shape", api.ErrArg)(array.Reshape(a, s))
			wantNone(t, "Spread to no shape", api.ErrArg)(array.Spread(a, s))
		}
	}
}

// P6.1: ErrShape of tensors that do not have two numbers in their shapes, even of one number.
func TestNotInRows(t *testing.T) {
	source := &numbers{state: 2}
	for _, s := range rightShapes() {
		if len(s) == 2 {
			continue
		}
		a := source.tensor(s)
		wantNone(t, "Transpose", api.ErrShape)(array.Transpose(a))
		wantNone(t, "MatMul", api.ErrShape)(array.MatMul(a, a))
		for _, u := range rightShapes() {
			b := source.tensor(u)
			wantNone(t, "MatMul", api.ErrShape)(array.MatMul(a, b))
			wantNone(t, "MatMul", api.ErrShape)(array.MatMul(b, a))
		}
	}
}

// P6.1: which of all pairs in rows go together, and what shape comes of it.
func TestShapesOfProducts(t *testing.T) {
	refused := 0
	for _, s := range shapesInRows() {
		a, _ := tensor.Fill(s, "1")
		for _, u := range shapesInRows() {
			b, _ := tensor.Fill(u, "1")
			switch {
			case s[1] != u[0]:
				wantNone(t, "MatMul of unlike", api.ErrShape)(array.MatMul(a, b))
			case s[0]*u[1] > api.MaxSize:
				refused++
				wantNone(t, "MatMul of too many", api.ErrShape)(array.MatMul(a, b))
			default:
				want, _ := tensor.Fill([]int{s[0], u[1]}, big.NewInt(int64(s[1])).String())
				wantTensor(t, "MatMul of ones", want)(array.MatMul(a, b))
			}
		}
	}
	if refused == 0 {
		t.Error("no product had too many numbers")
	}
}

// P6.1: a product whose shape is none: 65 numbers are too many, 64 are not.
func TestProductOfTooMany(t *testing.T) {
	source := &numbers{state: 3}
	for _, c := range [][2]int{{64, 2}, {2, 64}, {64, 64}, {5, 13}, {13, 5}, {33, 2}, {8, 9}} {
		a, b := source.tensor([]int{c[0], 1}), source.tensor([]int{1, c[1]})
		wantNone(t, "too many", api.ErrShape)(array.MatMul(a, b))
	}
	for _, c := range [][2]int{{64, 1}, {1, 64}, {32, 2}, {8, 8}, {4, 16}, {7, 9}} {
		a, b := source.tensor([]int{c[0], 1}), source.tensor([]int{1, c[1]})
		if got := (calls{t}).product(a, b); !slices.Equal(got.Shape, c[:]) {
			t.Errorf("a product of the shape %v has %v", c, got.Shape)
		}
	}
}

// P6.1: products held against math/big, of all pairs that go together.
func TestProducts(t *testing.T) {
	source := &numbers{state: 4}
	for _, s := range shapesInRows() {
		for columns := 1; columns*max(s[0], s[1]) <= api.MaxSize; columns += 1 + columns/3 {
			a, b := source.tensor(s), source.tensor([]int{s[1], columns})
			want := api.Tensor{Shape: []int{s[0], columns}}
			for row := range s[0] {
				for column := range columns {
					sum := new(big.Rat)
					for i := range s[1] {
						sum.Add(sum, new(big.Rat).Mul(toBig(t, a.Data[row*s[1]+i]), toBig(t, b.Data[i*columns+column])))
					}
					want.Data = append(want.Data, sum.RatString())
				}
			}
			wantTensor(t, "MatMul", want)(array.MatMul(a, b))
		}
	}
}

// P6.1: a number of each place stands where row and column have changed sides.
func TestTransposes(t *testing.T) {
	for _, s := range shapesInRows() {
		a := counted(s)
		want := api.Tensor{Shape: []int{s[1], s[0]}}
		for column := range s[1] {
			for row := range s[0] {
				want.Data = append(want.Data, a.Data[row*s[1]+column])
			}
		}
		wantTensor(t, "Transpose", want)(array.Transpose(a))
	}
}

// P6.2: ErrShape of sizes that are unlike; else the same numbers in the same order.
func TestReshape(t *testing.T) {
	source := &numbers{state: 5}
	for _, s := range rightShapes() {
		for _, u := range rightShapes() {
			a := source.tensor(s)
			if size(s) != size(u) {
				wantNone(t, "Reshape of unlike sizes", api.ErrShape)(array.Reshape(a, u))
				continue
			}
			wantTensor(t, "Reshape", api.Tensor{Shape: u, Data: a.Data})(array.Reshape(a, u))
		}
	}
}

// P6.2: the total, held against math/big.
func TestTotal(t *testing.T) {
	source := &numbers{state: 6}
	for range 10 {
		for _, s := range rightShapes() {
			a, sum := source.tensor(s), new(big.Rat)
			for _, k := range a.Data {
				sum.Add(sum, toBig(t, k))
			}
			wantTensor(t, "Total", of(nil, sum.RatString()))(array.Total(a))
		}
	}
}

// P6.2: one number in all places; ErrShape of each other shape, of size 1 too.
func TestSpread(t *testing.T) {
	source := &numbers{state: 7}
	for _, s := range rightShapes() {
		for _, u := range rightShapes() {
			a := source.tensor(s)
			if len(s) != 0 {
				wantNone(t, "Spread of more than none", api.ErrShape)(array.Spread(a, u))
				continue
			}
			wantTensor(t, "Spread", api.Tensor{Shape: u, Data: slices.Repeat(a.Data, size(u))})(array.Spread(a, u))
		}
	}
}

// P6.3: a product, transposed, is that of both, transposed, the other way round.
func TestTransposedProducts(t *testing.T) {
	source := &numbers{state: 8}
	is := calls{t}
	for _, s := range shapesInRows() {
		a := source.tensor(s)
		if got := is.turned(is.turned(a)); !same(got, a) {
			t.Errorf("%v, transposed twice, is %v", a, got)
		}
		for columns := 1; columns*max(s[0], s[1]) <= api.MaxSize; columns += 1 + columns/2 {
			b := source.tensor([]int{s[1], columns})
			if got, want := is.turned(is.product(a, b)), is.product(is.turned(b), is.turned(a)); !same(got, want) {
				t.Errorf("%v by %v, transposed: %v, not %v", a, b, got, want)
			}
		}
	}
}

// P6.1, P6.2: products go together, and ones in a slant change nothing.
func TestLaws(t *testing.T) {
	source := &numbers{state: 9}
	is := calls{t}
	slant := of([]int{3, 3}, "1 0 0 0 1 0 0 0 1")
	for range 20 {
		a, b, c := source.tensor([]int{2, 3}), source.tensor([]int{3, 4}), source.tensor([]int{4, 5})
		more := source.tensor([]int{3, 4})
		for i, law := range [][2]api.Tensor{
			{is.product(is.product(a, b), c), is.product(a, is.product(b, c))},
			{is.product(a, slant), a}, {is.product(slant, b), b},
			{is.product(a, is.right(tensor.Zip("add", b, more))), is.right(tensor.Zip("add", is.product(a, b), is.product(a, more)))},
			{is.right(array.Total(is.turned(a))), is.right(array.Total(a))},
			{is.right(array.Reshape(is.right(array.Reshape(a, []int{6})), []int{2, 3})), a},
		} {
			if !same(law[0], law[1]) {
				t.Errorf("law %d of %v, %v, %v: %v, %v", i, a, b, c, law[0], law[1])
			}
		}
	}
	for _, s := range rightShapes() {
		k := source.next()
		want, _ := rat.Mul(k, big.NewInt(int64(size(s))).String())
		wantTensor(t, "the total of what was spread", of(nil, want))(array.Total(is.right(array.Spread(of(nil, k), s))))
	}
}

// R1: what is handed in stays as it was, and no answer shares memory with it.
func TestNothingIsShared(t *testing.T) {
	a, b, one := of([]int{2, 2}, "1 -2 1/3 0"), of([]int{2, 2}, "1/2 5 -1/3 7"), of([]int{}, "3")
	s := []int{2, 2}
	is := calls{t}
	for i, got := range []api.Tensor{
		is.product(a, b), is.product(a, a), is.turned(a), is.right(array.Reshape(a, s)), is.right(array.Reshape(a, a.Shape)), is.right(array.Total(a)),
		is.right(array.Total(one)), is.right(array.Spread(one, s)), is.right(array.Spread(one, nil)), is.right(array.Reshape(one, nil)),
	} {
		for at := range got.Shape {
			got.Shape[at] = -1
		}
		for at := range got.Data {
			got.Data[at] = "x"
		}
		if !same(a, of([]int{2, 2}, "1 -2 1/3 0")) || !same(b, of([]int{2, 2}, "1/2 5 -1/3 7")) || !same(one, of(nil, "3")) || !slices.Equal(s, []int{2, 2}) {
			t.Fatalf("answer %d shares memory with what was handed in", i)
		}
	}
}

// R1, R4: nothing behind a list's end is read or written.
func TestListsWithRoom(t *testing.T) {
	room := of([]int{2, 2, 9}, "1 2 3 4 x y")
	a := api.Tensor{Shape: room.Shape[:2], Data: room.Data[:4]}
	none := api.Tensor{Shape: room.Shape[:0], Data: room.Data[:1]}
	wantTensor(t, "MatMul", of([]int{2, 2}, "7 10 15 22"))(array.MatMul(a, a))
	wantTensor(t, "Transpose", of([]int{2, 2}, "1 3 2 4"))(array.Transpose(a))
	wantTensor(t, "Reshape", of([]int{4}, "1 2 3 4"))(array.Reshape(a, []int{4}))
	wantTensor(t, "Reshape", of(nil, "1"))(array.Reshape(none, room.Shape[:0]))
	wantTensor(t, "Total", of(nil, "10"))(array.Total(a))
	wantTensor(t, "Spread", of([]int{2}, "1 1"))(array.Spread(none, room.Shape[:1]))
	if !same(room, of([]int{2, 2, 9}, "1 2 3 4 x y")) {
		t.Errorf("what stood behind the list is %v", room)
	}
}

// R3, R4: the same is answered again, whatever was asked, and refused, in between.
func TestSameAgain(t *testing.T) {
	ask := func() string {
		is := calls{t}
		source := &numbers{state: 10}
		var answers []string
		for range 10 {
			a, b := source.tensor([]int{3, 4}), source.tensor([]int{4, 2})
			for _, got := range []api.Tensor{is.product(a, b), is.turned(a), is.right(array.Reshape(a, []int{12})), is.right(array.Total(a))} {
				answers = append(answers, got.Data...)
			}
		}
		return strings.Join(answers, " ")
	}
	first := ask()
	for _, a := range append(wrongTensors(), of([]int{1}, "1")) {
		array.MatMul(a, a)
		array.Transpose(a)
		array.Reshape(a, []int{2})
		array.Spread(a, []int{2})
		array.Total(a)
	}
	if ask() != first {
		t.Error("another answer at the second time")
	}
}

// R5: a list of none is the same whether it is nil or empty.
func TestNilIsEmpty(t *testing.T) {
	for _, a := range []api.Tensor{of(nil, "2/3"), of([]int{}, "2/3")} {
		wantNone(t, "Transpose", api.ErrShape)(array.Transpose(a))
		wantNone(t, "MatMul", api.ErrShape)(array.MatMul(a, a))
		wantTensor(t, "Total", of(nil, "2/3"))(array.Total(a))
		for _, s := range [][]int{nil, {}} {
			wantTensor(t, "Reshape", of(nil, "2/3"))(array.Reshape(a, s))
			wantTensor(t, "Spread", of(nil, "2/3"))(array.Spread(a, s))
			wantNone(t, "Reshape of two", api.ErrShape)(array.Reshape(of([]int{2}, "1 2"), s))
		}
	}
}

// P6.1, P6.2, P1: numbers of as many digits as are promised (2^16).
func TestManyDigits(t *testing.T) {
	const most = 1 << 16
	long := strings.Repeat("7318204659", most/20) + "1/1" + strings.Repeat("0", most/2-8)
	row := of([]int{1, 2}, long+" -"+long)
	column := of([]int{2, 1}, long+" -"+long)
	wantTensor(t, "MatMul", of([]int{1, 1}, "0"))(array.MatMul(row, of([]int{2, 1}, "1 1")))
	wantTensor(t, "Transpose", column)(array.Transpose(row))
	wantTensor(t, "Reshape", column)(array.Reshape(row, []int{2, 1}))
	wantTensor(t, "Total", of(nil, "0"))(array.Total(row))
	wantTensor(t, "Spread", of([]int{3}, long+" "+long+" "+long))(array.Spread(of(nil, long), []int{3}))
}
