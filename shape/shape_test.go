package shape_test

import (
	"math"
	"math/big"
	"slices"
	"testing"

	"tapewright/api"
	"tapewright/shape"
)

// listsOf has all lists of up to so many of the numbers.
func listsOf(numbers []int, longest int) [][]int {
	lists := [][]int{nil}
	last := lists
	for range longest {
		var longer [][]int
		for _, list := range last {
			for _, n := range numbers {
				longer = append(longer, append(slices.Clone(list), n))
			}
		}
		lists = append(lists, longer...)
		last = longer
	}
	return lists
}

// sizeByDocument is worked out from the document's words, with numbers that do not wrap round.
func sizeByDocument(s []int) int {
	product := big.NewInt(1)
	for _, n := range s {
		if n < 1 || n > 64 {
			return 0
		}
		product.Mul(product, big.NewInt(int64(n)))
	}
	if len(s) > 4 || product.Cmp(big.NewInt(64)) > 0 {
		return 0
	}
	return int(product.Int64())
}

// allShapes has each shape there is.
func allShapes() [][]int {
	shapes := [][]int{nil}
	last := shapes
	for range api.MaxRank {
		var longer [][]int
		for _, s := range last {
			for n := 1; n <= api.MaxSize; n++ {
				if next := append(slices.Clone(s), n); sizeByDocument(next) > 0 {
					longer = append(longer, next)
				}
			}
		}
		shapes = append(shapes, longer...)
		last = longer
	}
	return shapes
}

// noShapes has lists that are none, by a number, by their length, or by their product.
func noShapes() [][]int {
	return [][]int{
		{0}, {-1}, {65}, {66}, {128}, {math.MinInt}, {math.MaxInt}, {math.MinInt + 1}, {math.MaxInt32 + 1}, {1 << 32}, {1 << 62},
		{0, 1}, {1, 0}, {2, 0, 3}, {0, 65}, {65, 0}, {1, 65}, {65, 1}, {64, -1}, {-1, 64}, {0, 0, 0, 0},
		{-1, -1}, {-2, -3}, {2, -3, -1}, {-8, -8}, {-1, -1, -1, -1}, {math.MinInt, -1}, {math.MinInt, math.MinInt}, {math.MaxInt, math.MaxInt},
		{8, 9}, {9, 8}, {64, 2}, {2, 64}, {33, 2}, {13, 5}, {5, 13}, {4, 4, 5}, {5, 4, 4}, {3, 3, 3, 3}, {2, 2, 2, 9}, {9, 2, 2, 2}, {64, 64, 64, 64},
		{1 << 16, 1 << 16}, {1 << 31, 2}, {1 << 32, 1 << 32}, {1 << 32, 1 << 31, 2}, {1 << 16, 1 << 16, 1 << 16, 1 << 16}, {math.MaxInt, 2}, {math.MaxInt, 3, 1},
		{1, 1, 1, 1, 1}, {1, 1, 1, 1, 2}, {2, 1, 1, 1, 1}, {2, 2, 2, 2, 2}, {1, 1, 1, 1, 0}, {0, 0, 0, 0, 0}, {1, 1, 1, 1, 1, 1}, {64, 64, 64, 64, 64},
		make([]int, 1<<20), slices.Repeat([]int{1}, 1<<20), slices.Repeat([]int{2}, 1<<20),
	}
}

// oddNumbers stand where something ends: the limits, and a machine word.
func oddNumbers() []int {
	return []int{math.MinInt, math.MinInt + 1, -(1 << 32), -65, -64, -2, -1, 0, 1, 2, 3, 4, 5, 7, 8, 9, 16, 21, 22, 31, 32, 33, 63, 64, 65, 128,
		1 << 16, 1 << 31, 1 << 32, 1<<32 + 1, 1 << 62, math.MaxInt - 1, math.MaxInt}
}

func checkSize(t *testing.T, s []int) {
	t.Helper()
	want := sizeByDocument(s)
	if got := shape.Size(s); got != want {
		t.Fatalf("Size(%v): %d, not %d", s, got, want)
	}
	if got := shape.Right(s); got != (want > 0) {
		t.Fatalf("Right(%v): %t", s, got)
	}
}

// P4.1: what a shape is, at the edges that the document names.
func TestSizeAtTheEdges(t *testing.T) {
	for _, c := range []struct {
		s    []int
		size int
	}{
		{nil, 1}, {[]int{}, 1}, {[]int{1}, 1}, {[]int{1, 1, 1, 1}, 1}, {[]int{2}, 2}, {[]int{2, 3}, 6}, {[]int{3, 2}, 6}, {[]int{2, 3, 4}, 24},
		{[]int{63}, 63}, {[]int{64}, 64}, {[]int{1, 64}, 64}, {[]int{64, 1}, 64}, {[]int{1, 1, 1, 64}, 64}, {[]int{64, 1, 1, 1}, 64},
		{[]int{8, 8}, 64}, {[]int{32, 2}, 64}, {[]int{4, 4, 4}, 64}, {[]int{2, 2, 4, 4}, 64}, {[]int{7, 9}, 63}, {[]int{31, 2}, 62}, {[]int{21, 3}, 63},
	} {
		if got := shape.Size(c.s); got != c.size || !shape.Right(c.s) {
			t.Errorf("%v: Size %d, Right %t", c.s, got, shape.Right(c.s))
		}
	}
	for _, s := range noShapes() {
		if got := shape.Size(s); got != 0 || shape.Right(s) {
			t.Errorf("%v of %d numbers: Size %d, Right %t", s[:min(len(s), 8)], len(s), got, shape.Right(s))
		}
	}
}

// P4.1: every list of up to three of the odd numbers, and longer ones of small numbers.
func TestSizeOfAllLists(t *testing.T) {
	for _, s := range listsOf(oddNumbers(), 3) {
		checkSize(t, s)
	}
	for _, s := range listsOf([]int{-1, 0, 1, 2, 3, 4, 8, 64, 65, 1 << 32}, 5) {
		checkSize(t, s)
	}
	for n := -300; n <= 300; n++ {
		checkSize(t, []int{n})
		for m := -100; m <= 100; m++ {
			checkSize(t, []int{n, m})
		}
	}
}

// P4.1: the limits are api's, and the document's.
func TestLimits(t *testing.T) {
	if api.MaxRank != 4 || api.MaxSize != 64 {
		t.Fatalf("limits: %d, %d", api.MaxRank, api.MaxSize)
	}
	ones := slices.Repeat([]int{1}, api.MaxRank)
	if !shape.Right(ones) || shape.Right(append(ones, 1)) {
		t.Error("MaxRank")
	}
	if !shape.Right([]int{api.MaxSize}) || shape.Right([]int{api.MaxSize + 1}) {
		t.Error("MaxSize")
	}
}

// P4.1: the same numbers are as many, each like the other's at its place.
func TestSame(t *testing.T) {
	for _, c := range []struct {
		a, b []int
		want bool
	}{
		{nil, nil, true}, {nil, []int{}, true}, {[]int{}, nil, true}, {[]int{}, []int{}, true},
		{[]int{2, 3}, []int{2, 3}, true}, {[]int{2, 3}, []int{3, 2}, false}, {[]int{6}, []int{2, 3}, false},
		{nil, []int{1}, false}, {[]int{1}, nil, false}, {nil, []int{0}, false}, {[]int{1}, []int{1, 1}, false}, {[]int{1, 1}, []int{1}, false},
		{[]int{2, 3, 4}, []int{2, 3}, false}, {[]int{2, 3, 4}, []int{2, 3, 5}, false}, {[]int{2, 3, 4}, []int{1, 3, 4}, false}, {[]int{2, 2, 3}, []int{2, 3, 3}, false},
	} {
		if got := shape.Same(c.a, c.b); got != c.want {
			t.Errorf("Same(%v, %v): %t", c.a, c.b, got)
		}
	}
}

// P4.1: Same asks for numbers, whether or not they are a shape's.
func TestSameOfNoShapes(t *testing.T) {
	lists := noShapes()
	for i, a := range lists {
		for j, b := range lists {
			if got := shape.Same(a, slices.Clone(b)); got != (i == j) {
				t.Errorf("lists %d and %d: %t", i, j, got)
			}
		}
		if shape.Same(a, nil) || shape.Same(nil, a) || shape.Same(a, a[1:]) || shape.Same(a, append(slices.Clone(a), 1)) {
			t.Errorf("list %d and another", i)
		}
	}
}

// nextPlace goes on by one, the last number fastest; false, where it was the last one.
func nextPlace(s, at []int) bool {
	for i := len(s) - 1; i >= 0; i-- {
		if at[i]++; at[i] < s[i] {
			return true
		}
		at[i] = 0
	}
	return false
}

// P4.2 and P4.3: gone through in order, the places of every shape are its counts, one by one.
func TestPlacesAreCounted(t *testing.T) {
	for _, s := range allShapes() {
		at := make([]int, len(s))
		for count := range sizeByDocument(s) {
			if got, ok := shape.Offset(s, at); got != count || !ok {
				t.Fatalf("Offset(%v, %v): %d, %t, not %d", s, at, got, ok, count)
			}
			if got, ok := shape.Place(s, count); !slices.Equal(got, at) || !ok {
				t.Fatalf("Place(%v, %d): %v, %t, not %v", s, count, got, ok, at)
			}
			if more := nextPlace(s, at); more != (count+1 < sizeByDocument(s)) {
				t.Fatalf("%v has another count of places than its size", s)
			}
		}
	}
}

// P4.3: each count below the size is just one place's, among all lists that might be one.
func TestOnePlaceForEachCount(t *testing.T) {
	near := listsOf([]int{-1, 0, 1, 2, 3, 4, 5}, 4)
	for _, s := range listsOf([]int{1, 2, 3, 4}, 3) {
		seen := map[int]int{}
		for _, at := range near {
			count, ok := shape.Offset(s, at)
			if !ok {
				continue
			}
			if back, there := shape.Place(s, count); !there || !slices.Equal(back, at) {
				t.Fatalf("Place(%v, %d): %v, %t, not %v", s, count, back, there, at)
			}
			seen[count]++
		}
		for count := range sizeByDocument(s) {
			if seen[count] != 1 {
				t.Fatalf("%v: %d places have the count %d", s, seen[count], count)
			}
		}
		if len(seen) != sizeByDocument(s) {
			t.Fatalf("%v: %d counts", s, len(seen))
		}
	}
}

// P4.2: the document's example, and others by hand.
func TestOffsetAndPlaceByHand(t *testing.T) {
	for _, c := range []struct {
		s, at []int
		count int
	}{
		{[]int{2, 3}, []int{1, 2}, 5}, {[]int{2, 3}, []int{0, 1}, 1}, {[]int{2, 3}, []int{1, 0}, 3}, {[]int{3, 2}, []int{1, 0}, 2},
		{nil, nil, 0}, {[]int{}, []int{}, 0}, {nil, []int{}, 0}, {[]int{64}, []int{63}, 63}, {[]int{1, 1, 1, 1}, []int{0, 0, 0, 0}, 0},
		{[]int{2, 3, 4}, []int{1, 0, 3}, 15}, {[]int{2, 2, 4, 4}, []int{1, 0, 3, 2}, 46}, {[]int{4, 1, 16}, []int{3, 0, 15}, 63},
	} {
		if got, ok := shape.Offset(c.s, c.at); got != c.count || !ok {
			t.Errorf("Offset(%v, %v): %d, %t", c.s, c.at, got, ok)
		}
		if got, ok := shape.Place(c.s, c.count); !slices.Equal(got, c.at) || !ok {
			t.Errorf("Place(%v, %d): %v, %t", c.s, c.count, got, ok)
		}
	}
}

func wantNoOffset(t *testing.T, s, at []int) {
	t.Helper()
	if got, ok := shape.Offset(s, at); got != 0 || ok {
		t.Errorf("Offset(%v, %v): %d, %t", s[:min(len(s), 8)], at[:min(len(at), 8)], got, ok)
	}
}

func wantNoPlace(t *testing.T, s []int, n int) {
	t.Helper()
	if got, ok := shape.Place(s, n); len(got) != 0 || ok {
		t.Errorf("Place(%v, %d): %v, %t", s[:min(len(s), 8)], n, got, ok)
	}
}

// P4.2: of what is no shape there is neither a count nor a place.
func TestNothingOfNoShape(t *testing.T) {
	for _, s := range noShapes() {
		wantNoOffset(t, s, nil)
		wantNoOffset(t, s, make([]int, len(s)))
		wantNoOffset(t, s, s)
		for _, n := range oddNumbers() {
			wantNoPlace(t, s, n)
		}
	}
}

// P4.2: of a place that is none there is no count, whichever of its numbers is wrong.
func TestNoOffsetBesideThePlaces(t *testing.T) {
	for _, s := range allShapes() {
		wantNoOffset(t, s, make([]int, len(s)+1))
		wantNoOffset(t, s, make([]int, 1<<10))
		if len(s) > 0 {
			wantNoOffset(t, s, nil)
			wantNoOffset(t, s, make([]int, len(s)-1))
			wantNoOffset(t, s, s)
		}
		for i, n := range s {
			for _, wrong := range []int{-1, n, n + 1, -n, math.MinInt, math.MaxInt, 1 << 32, -(1 << 32)} {
				at := make([]int, len(s))
				at[i] = wrong
				wantNoOffset(t, s, at)
			}
		}
	}
	// Numbers that are wrong, though their count is one of a place.
	wantNoOffset(t, []int{2, 3}, []int{0, 3})
	wantNoOffset(t, []int{2, 3}, []int{1, -1})
	wantNoOffset(t, []int{2, 3}, []int{-1, 4})
	wantNoOffset(t, []int{2, 3}, []int{2, -3})
}

// P4.2: of a count that is none there is no place.
func TestNoPlaceBesideTheCounts(t *testing.T) {
	for _, s := range allShapes() {
		size := sizeByDocument(s)
		for _, n := range []int{-1, -2, -size, size, size + 1, 2 * size, 65, 128, math.MinInt, math.MinInt + 1, math.MaxInt, 1 << 32, -(1 << 32)} {
			wantNoPlace(t, s, n)
		}
	}
}

// R1: what is handed in stays, and is neither kept nor shared with an answer.
func TestHandedInStays(t *testing.T) {
	whole := []int{2, 3, 4, 9, 9}
	s, at := whole[:3], []int{1, 2, 3, 7}
	shape.Right(s)
	shape.Size(s)
	shape.Same(s, at)
	shape.Offset(s, at[:3])
	first, _ := shape.Place(s, 23)
	if !slices.Equal(whole, []int{2, 3, 4, 9, 9}) || !slices.Equal(at, []int{1, 2, 3, 7}) {
		t.Fatalf("changed: %v, %v", whole, at)
	}
	s[0], s[1], s[2] = 4, 3, 2
	if !slices.Equal(first, []int{1, 2, 3}) {
		t.Fatalf("the answer went along: %v", first)
	}
	second, _ := shape.Place(s, 23)
	second[0], second[1], second[2] = 50, 51, 52
	third, _ := shape.Place(s, 23)
	if !slices.Equal(third, []int{3, 2, 1}) || !slices.Equal(s, []int{4, 3, 2}) || !slices.Equal(first, []int{1, 2, 3}) {
		t.Fatalf("answers share: %v, %v, %v", first, third, s)
	}
}

// P1, R4 and R5: all arguments are answered, alike each time, and nil like empty.
func TestAllArgumentsAreAnswered(t *testing.T) {
	lists := append(listsOf(oddNumbers(), 1), noShapes()...)
	lists = append(lists, []int{}, []int{2, 3}, []int{1, 2}, []int{4, 4, 4}, []int{0, 1, 2, 3})
	for _, a := range lists {
		for _, b := range lists {
			n, ok := shape.Offset(a, b)
			m, again := shape.Offset(a, b)
			if n != m || ok != again || shape.Same(a, b) != shape.Same(b, a) || ok && n >= shape.Size(a) {
				t.Errorf("%v, %v: %d, %d", a[:min(len(a), 8)], b[:min(len(b), 8)], n, m)
			}
		}
	}
	for _, none := range [][]int{nil, {}} {
		if at, ok := shape.Place(none, 0); len(at) != 0 || !ok {
			t.Errorf("Place of none: %v, %t", at, ok)
		}
		wantNoPlace(t, none, 1)
		wantNoPlace(t, none, -1)
		wantNoOffset(t, none, []int{0})
	}
}
