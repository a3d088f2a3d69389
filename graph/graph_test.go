package graph_test

import (
	"math"
	"math/big"
	"reflect"
	"regexp"
	"slices"
	"strconv"
	"strings"
	"testing"

	"tapewright/api"
	"tapewright/graph"
)

// row is one of the document's table: how many parts, which field beside them, and which shape.
type row struct {
	parts int
	field string
	shape string
}

var rows = map[string]row{
	"param": {0, "Name", "its own"}, "input": {0, "Name", "its own"}, "const": {0, "Data", "its own"},
	"add": {2, "", "of both"}, "sub": {2, "", "of both"}, "mul": {2, "", "of both"}, "max": {2, "", "of both"}, "above": {2, "", "of both"},
	"matmul": {2, "", "product"},
	"relu":   {1, "", "A's"}, "abs": {1, "", "A's"}, "step": {1, "", "A's"}, "sign": {1, "", "A's"},
	"scale": {1, "K", "A's"}, "power": {1, "N", "A's"},
	"transpose": {1, "", "turned"}, "sum": {1, "", "none"},
	"reshape": {1, "Shape", "its own, of A's size"}, "spread": {1, "Shape", "its own, A's none"},
}

var (
	namePattern = regexp.MustCompile(`\A[a-z][a-z0-9]{0,7}\z`)
	noOps       = []string{"", "loss", "neg", "Param", "adds", "add ", " add", "ADD", "const\x00", "\xff", "=", "a"}
	noNames     = []string{"", "2", "2w", "W", "w_", "abcdefghi", "w ", " w", "w#", "\xff", "w\n"}
	someNames   = []string{"a", "w2", "abcdefgh", "param", "loss", "add", "z9"}
	rationals   = []string{"0", "1", "-1", "1/2", "-7/3", "99999999999999999999", "-1/99999999999999999999"}
	noRationals = []string{"", "-", "/", "a", "00", "01", "-0", "+1", "1.5", "1/1", "2/4", "0/2", "1/0", "1/", "/2", "1/-2", " 1", "1 ", "1/2/3", "\xff"}
	someShapes  = [][]int{nil, {1}, {2}, {3}, {1, 1}, {1, 2}, {2, 1}, {2, 3}, {3, 2}, {2, 2}, {6}, {64}, {8, 8}, {1, 64}, {16, 4}, {1, 2, 3}, {2, 2, 2, 8}, {1, 1, 1, 1}, {2, 1, 3, 1}}
	noShapes    = [][]int{{0}, {-1}, {65}, {2, 0}, {0, 2}, {-2, -2}, {8, 9}, {33, 2}, {64, 2}, {2, 2, 2, 9}, {1, 1, 1, 1, 1}, {2, 3, 1, 1, 1}, {math.MinInt}, {math.MaxInt}, {math.MaxInt, math.MaxInt}, {1 << 32, 1 << 32}, {math.MinInt, 2}}
)

func allOps() []string {
	var list []string
	for op := range rows {
		list = append(list, op)
	}
	slices.Sort(list)
	return list
}

func sizeByDocument(s []int) (int, bool) {
	size := 1
	for _, n := range s {
		if n < 1 || n > 64 {
			return 0, false
		}
		size = min(size*n, 1000)
	}
	return size, len(s) <= 4 && size <= 64
}

func rationalByDocument(s string) bool {
	r, ok := new(big.Rat).SetString(s)
	return ok && r.RatString() == s
}

// onlyByDocument: what the row does not name is empty, or 0.
func onlyByDocument(n api.Node, r row) bool {
	if r.parts < 2 {
		if n.B != 0 {
			return false
		}
	}
	if r.parts < 1 {
		if n.A != 0 {
			return false
		}
	}
	given := map[string]bool{"Name": n.Name != "", "K": n.K != "", "N": n.N != 0, "Data": len(n.Data) > 0}
	delete(given, r.field)
	for _, there := range given {
		if there {
			return false
		}
	}
	return true
}

// fieldByDocument: is the field that the row names as it must be?
func fieldByDocument(n api.Node, r row) bool {
	switch r.field {
	case "Name":
		return namePattern.MatchString(n.Name)
	case "K":
		return rationalByDocument(n.K)
	case "N":
		return 0 <= n.N && n.N <= 6
	case "Data":
		size, ok := sizeByDocument(n.Shape)
		return ok && len(n.Data) == size && !slices.ContainsFunc(n.Data, func(k string) bool { return !rationalByDocument(k) })
	}
	return true
}

// inferByDocument goes by the table's rows.
func inferByDocument(l []api.Node, n api.Node) ([]int, bool) {
	r, ok := rows[n.Op]
	if !ok || !onlyByDocument(n, r) || !fieldByDocument(n, r) {
		return nil, false
	}
	var parts [][]int
	for _, at := range []int{n.A, n.B}[:r.parts] {
		if at < 0 || at > len(l)-1 {
			return nil, false
		}
		parts = append(parts, l[at].Shape)
	}
	s, ok := shapeByDocument(r.shape, parts, n.Shape)
	if _, right := sizeByDocument(s); !ok || !right {
		return nil, false
	}
	return s, true
}

func shapeByDocument(which string, parts [][]int, own []int) ([]int, bool) {
	switch which {
	case "its own":
		return own, true
	case "of both":
		return parts[0], slices.Equal(parts[0], parts[1])
	case "product":
		if len(parts[0]) != 2 || len(parts[1]) != 2 {
			return nil, false
		}
		return []int{parts[0][0], parts[1][1]}, parts[0][1] == parts[1][0]
	case "A's":
		return parts[0], true
	case "turned":
		s := slices.Clone(parts[0])
		slices.Reverse(s)
		return s, len(s) == 2
	case "none":
		return nil, true
	case "its own, of A's size":
		size, ok := sizeByDocument(own)
		of, right := sizeByDocument(parts[0])
		return own, ok && right && size == of
	}
	return own, len(parts[0]) == 0
}

func rightByDocument(g api.Graph) bool {
	if len(g.Nodes) == 0 || len(g.Nodes) > 200 {
		return false
	}
	there := map[string]int{}
	for i, n := range g.Nodes {
		s, ok := inferByDocument(g.Nodes[:i], n)
		if !ok || !slices.Equal(s, n.Shape) {
			return false
		}
		if n.Name != "" {
			there[n.Name]++
		}
		if there[n.Name] > 1 {
			return false
		}
	}
	return slices.Contains(places(len(g.Nodes)), g.Loss) && len(g.Nodes[g.Loss].Shape) == 0
}

func places(count int) []int {
	var list []int
	for i := range count {
		list = append(list, i)
	}
	return list
}

// source makes numbers that are the same at each run.
type source struct {
	state uint64
}

func (s *source) below(limit int) int {
	s.state = s.state*6364136223846793005 + 1442695040888963407
	return int(s.state>>33) % limit
}

func (s *source) one(list []string) string {
	return list[s.below(len(list))]
}

func (s *source) shape(list [][]int) []int {
	return slices.Clone(list[s.below(len(list))])
}

// node is mostly of an operation, and has mostly what that must have.
func (s *source) node(count int) api.Node {
	op := s.one(allOps())
	n := api.Node{Op: op}
	r := rows[op]
	if r.parts > 0 && count > 0 {
		n.A = s.below(count)
	}
	if r.parts > 1 && count > 0 {
		n.B = s.below(count)
	}
	if strings.HasPrefix(r.shape, "its own") || s.below(4) == 0 {
		n.Shape = s.shape(someShapes)
	}
	switch r.field {
	case "Name":
		n.Name = "v" + strconv.Itoa(s.below(10000))
	case "K":
		n.K = s.one(rationals)
	case "N":
		n.N = s.below(7)
	case "Data":
		size, _ := sizeByDocument(n.Shape)
		for range size {
			n.Data = append(n.Data, s.one(rationals))
		}
	}
	return n
}

// changed has one field that is another than before, mostly a wrong one.
func (s *source) changed(n api.Node, count int) api.Node {
	switch s.below(9) {
	case 0:
		n.Op = s.one(append(allOps(), noOps...))
	case 1:
		n.A = []int{-1, count, count - 1, count + 1, math.MaxInt, math.MinInt, 1, 0, 2}[s.below(9)]
	case 2:
		n.B = []int{-1, count, count - 1, count + 1, math.MaxInt, math.MinInt, 1, 0, 2}[s.below(9)]
	case 3:
		n.Name = s.one(slices.Concat(someNames, noNames))
	case 4:
		n.Shape = s.shape(slices.Concat(someShapes, noShapes))
	case 5:
		n.K = s.one(slices.Concat(rationals, noRationals))
	case 6:
		n.N = []int{-1, 0, 1, 6, 7, math.MaxInt, math.MinInt}[s.below(7)]
	case 7:
		n.Data = append(slices.Clone(n.Data), s.one(slices.Concat(rationals, noRationals)))
	case 8:
		n.Data = slices.Clone(n.Data)
		if len(n.Data) > 0 {
			n.Data[s.below(len(n.Data))] = s.one(slices.Concat(rationals, noRationals))
		}
	}
	return n
}

// graph is a right one, of which some node has the shape of none.
func (s *source) graph(count int) api.Graph {
	g := api.Graph{Nodes: []api.Node{{Op: "param", Name: "w"}}}
	for len(g.Nodes) < count {
		n := s.node(len(g.Nodes))
		list, ok := inferByDocument(g.Nodes, n)
		if !ok || n.Name != "" && slices.ContainsFunc(g.Nodes, func(other api.Node) bool { return other.Name == n.Name }) {
			continue
		}
		n.Shape = slices.Clone(list)
		g.Nodes = append(g.Nodes, n)
	}
	for g.Loss = s.below(count); len(g.Nodes[g.Loss].Shape) > 0; {
		g.Loss = s.below(count)
	}
	return g
}

func copied(g api.Graph) api.Graph {
	nodes := slices.Clone(g.Nodes)
	for i := range nodes {
		nodes[i].Shape = slices.Clone(nodes[i].Shape)
		nodes[i].Data = slices.Clone(nodes[i].Data)
	}
	return api.Graph{Nodes: nodes, Loss: g.Loss}
}

// some is one param of each shape, in order.
func some() []api.Node {
	var list []api.Node
	for i, s := range someShapes {
		list = append(list, api.Node{Op: "param", Name: "p" + strconv.Itoa(i), Shape: s})
	}
	return list
}

func wantShape(t *testing.T, l []api.Node, n api.Node, want []int) {
	t.Helper()
	if got, ok := graph.Infer(l, n); !ok || !slices.Equal(got, want) {
		t.Fatalf("Infer of %d and %+v: %v, %v, not %v", len(l), n, got, ok, want)
	}
}

func wantNoShape(t *testing.T, l []api.Node, n api.Node) {
	t.Helper()
	if got, ok := graph.Infer(l, n); ok || len(got) != 0 {
		t.Fatalf("Infer of %d and %+v: %v, %v", len(l), n, got, ok)
	}
}

func wantInferAsDocument(t *testing.T, l []api.Node, n api.Node) {
	t.Helper()
	if want, ok := inferByDocument(l, n); ok {
		wantShape(t, l, n, want)
	} else {
		wantNoShape(t, l, n)
	}
}

func wantRight(t *testing.T, g api.Graph, want bool) {
	t.Helper()
	before := copied(g)
	if got := graph.Right(g); got != want {
		t.Fatalf("Right of %d nodes, loss %d: %v: %+v", len(g.Nodes), g.Loss, got, g.Nodes[:min(len(g.Nodes), 6)])
	}
	if !reflect.DeepEqual(copied(g), before) {
		t.Fatal("Right changed its graph")
	}
}

// P10.1: the table's rows by hand, each with all that it has and nothing that it has not.
func TestInferByHand(t *testing.T) {
	l := []api.Node{
		{Op: "param", Name: "w"},
		{Op: "param", Name: "v", Shape: []int{2, 3}},
		{Op: "input", Name: "x", Shape: []int{3, 4}},
		{Op: "input", Name: "z", Shape: []int{2, 3}},
		{Op: "param", Name: "u", Shape: []int{1, 2, 3}},
	}
	for _, c := range []struct {
		n    api.Node
		want []int
	}{
		{api.Node{Op: "param", Name: "a"}, nil},
		{api.Node{Op: "param", Name: "abcdefgh", Shape: []int{2, 2, 4, 4}}, []int{2, 2, 4, 4}},
		{api.Node{Op: "input", Name: "a", Shape: []int{64}}, []int{64}},
		{api.Node{Op: "input", Name: "w", Shape: []int{5}}, []int{5}},
		{api.Node{Op: "const", Data: []string{"-1/2"}}, nil},
		{api.Node{Op: "const", Shape: []int{3, 1}, Data: []string{"1", "0", "-7"}}, []int{3, 1}},
		{api.Node{Op: "add", A: 1, B: 3}, []int{2, 3}},
		{api.Node{Op: "sub", A: 0, B: 0}, nil},
		{api.Node{Op: "mul", A: 4, B: 4}, []int{1, 2, 3}},
		{api.Node{Op: "max", A: 3, B: 1}, []int{2, 3}},
		{api.Node{Op: "above", A: 3, B: 3}, []int{2, 3}},
		{api.Node{Op: "matmul", A: 1, B: 2}, []int{2, 4}},
		{api.Node{Op: "relu", A: 1}, []int{2, 3}},
		{api.Node{Op: "abs"}, nil},
		{api.Node{Op: "step", A: 4}, []int{1, 2, 3}},
		{api.Node{Op: "sign", A: 2}, []int{3, 4}},
		{api.Node{Op: "scale", A: 2, K: "-7/3"}, []int{3, 4}},
		{api.Node{Op: "power", A: 1}, []int{2, 3}},
		{api.Node{Op: "power", A: 1, N: 6}, []int{2, 3}},
		{api.Node{Op: "transpose", A: 2}, []int{4, 3}},
		{api.Node{Op: "sum", A: 4}, nil},
		{api.Node{Op: "reshape", A: 1, Shape: []int{6}}, []int{6}},
		{api.Node{Op: "reshape", A: 4, Shape: []int{3, 1, 2, 1}}, []int{3, 1, 2, 1}},
		{api.Node{Op: "reshape", Shape: []int{1, 1}}, []int{1, 1}},
		{api.Node{Op: "spread", Shape: []int{8, 8}}, []int{8, 8}},
		{api.Node{Op: "spread"}, nil},
	} {
		wantShape(t, l, c.n, c.want)
		wantInferAsDocument(t, l, c.n)
	}
	wantShape(t, nil, api.Node{Op: "param", Name: "a", Shape: []int{2}}, []int{2})
	wantShape(t, nil, api.Node{Op: "const", Data: []string{"1"}}, nil)
}

// P10.1: what a node must not be, by hand.
func TestInferNoneByHand(t *testing.T) {
	l := []api.Node{
		{Op: "param", Name: "w"},
		{Op: "param", Name: "v", Shape: []int{2, 3}},
		{Op: "input", Name: "x", Shape: []int{3, 2}},
		{Op: "param", Name: "u", Shape: []int{1}},
		{Op: "param", Name: "c", Shape: []int{64, 1}},
		{Op: "param", Name: "r", Shape: []int{1, 64}},
	}
	for _, n := range []api.Node{
		{},
		{Op: "loss"},
		{Op: "neg", A: 1},
		{Op: "param"},
		{Op: "input", Name: "2x"},
		{Op: "param", Name: "a", Shape: []int{65}},
		{Op: "const"},
		{Op: "const", Shape: []int{2}, Data: []string{"1"}},
		{Op: "const", Shape: []int{2}, Data: []string{"1", "2", "3"}},
		{Op: "const", Shape: []int{2}, Data: []string{"1", "2/4"}},
		{Op: "const", Shape: []int{0}},
		{Op: "add", A: 1, B: 2},
		{Op: "sub", A: 0, B: 3},
		{Op: "mul", A: 3, B: 0},
		{Op: "max", A: 1, B: 6},
		{Op: "above", A: -1, B: 1},
		{Op: "above", A: 1, B: -1},
		{Op: "matmul", A: 1, B: 1},
		{Op: "matmul", A: 0, B: 0},
		{Op: "matmul", A: 3, B: 3},
		{Op: "matmul", A: 2, B: 3},
		{Op: "matmul", A: 4, B: 5},
		{Op: "relu", A: 6},
		{Op: "relu", A: -1},
		{Op: "scale", A: 1},
		{Op: "scale", A: 1, K: "1/1"},
		{Op: "power", A: 1, N: 7},
		{Op: "power", A: 1, N: -1},
		{Op: "transpose", A: 0},
		{Op: "transpose", A: 3},
		{Op: "sum", A: 6},
		{Op: "reshape", A: 1, Shape: []int{5}},
		{Op: "reshape", A: 1},
		{Op: "reshape", A: 1, Shape: []int{-2, -3}},
		{Op: "spread", A: 3, Shape: []int{2}},
		{Op: "spread", A: 0, Shape: []int{0}},
		{Op: "spread", A: 0, Shape: []int{1, 1, 1, 1, 1}},
	} {
		wantNoShape(t, l, n)
		wantNoShape(t, nil, n)
	}
	wantNoShape(t, nil, api.Node{Op: "relu"})
	wantNoShape(t, nil, api.Node{Op: "add"})
	wantShape(t, l, api.Node{Op: "matmul", A: 5, B: 4}, []int{1, 1})
}

// P10.1: each operation of parts of each shape, and behind no nodes.
func TestInferPartsOfAllShapes(t *testing.T) {
	l := some()
	for _, op := range allOps() {
		for a := -2; a < len(l)+2; a++ {
			for b := -2; b < len(l)+2; b++ {
				n := api.Node{Op: op, A: a, B: b}
				wantInferAsDocument(t, l, n)
				wantInferAsDocument(t, l[:len(l)/2], n)
			}
			for _, s := range slices.Concat(someShapes, noShapes) {
				for _, k := range []string{"", "1/2"} {
					wantInferAsDocument(t, l, api.Node{Op: op, A: a, Shape: s, K: k})
				}
				wantInferAsDocument(t, l, api.Node{Op: op, A: a, Shape: s, Name: "y"})
			}
		}
	}
}

// P10.1: names as layer 8 has them, rationals as layer 3 has them, powers of 0 to 6; as many rationals as the shape's size.
func TestInferFields(t *testing.T) {
	l := some()
	for _, name := range slices.Concat(someNames, noNames) {
		for _, op := range []string{"param", "input"} {
			wantInferAsDocument(t, l, api.Node{Op: op, Name: name, Shape: []int{2}})
		}
	}
	for _, k := range slices.Concat(rationals, noRationals) {
		wantInferAsDocument(t, l, api.Node{Op: "scale", A: 4, K: k})
		wantInferAsDocument(t, l, api.Node{Op: "const", Data: []string{k}})
		for at := range 3 {
			data := []string{"1", "1/2", "0"}
			data[at] = k
			wantInferAsDocument(t, l, api.Node{Op: "const", Shape: []int{3}, Data: data})
		}
	}
	for n := -10; n < 20; n++ {
		wantInferAsDocument(t, l, api.Node{Op: "power", A: 5, N: n})
	}
	wantNoShape(t, l, api.Node{Op: "power", N: math.MaxInt})
	wantNoShape(t, l, api.Node{Op: "power", N: math.MinInt})
	for _, s := range slices.Concat(someShapes, noShapes) {
		for count := range 67 {
			wantInferAsDocument(t, l, api.Node{Op: "const", Shape: s, Data: slices.Repeat([]string{"-1/2"}, count)})
		}
	}
	digits := strings.Repeat("7", 1<<16)
	wantShape(t, l, api.Node{Op: "scale", A: 1, K: "-" + digits}, []int{1})
	wantShape(t, l, api.Node{Op: "const", Data: []string{"1/" + digits}}, nil)
	wantNoShape(t, l, api.Node{Op: "scale", A: 1, K: "0" + digits})
}

// P10.1: what a row does not name is empty, or 0, but n's own Shape, which is not asked for.
func TestWhatIsNotNamed(t *testing.T) {
	s := &source{state: 1}
	for range 40 {
		g := s.graph(25)
		for i, n := range g.Nodes {
			r := rows[n.Op]
			for field, more := range map[string]api.Node{"Name": {Name: "more"}, "K": {K: "1"}, "N": {N: 1}, "Data": {Data: []string{"1"}}, "B": {B: 1}, "A": {A: 1}} {
				changed := n
				switch {
				case field == r.field || field == "B" && r.parts > 1 || field == "A" && r.parts > 0:
					continue
				case field == "A":
					changed.A = more.A
				case field == "B":
					changed.B = more.B
				case field == "Name":
					changed.Name = more.Name
				default:
					changed.K, changed.N, changed.Data = more.K, more.N, more.Data
					if r.field == "K" {
						changed.K = n.K
					}
					if r.field == "N" {
						changed.N = n.N
					}
					if r.field == "Data" {
						changed.Data = n.Data
					}
				}
				wantNoShape(t, g.Nodes[:i], changed)
				wrong := copied(g)
				wrong.Nodes[i] = changed
				wantRight(t, wrong, false)
			}
			if strings.HasPrefix(r.shape, "its own") {
				continue
			}
			for _, own := range slices.Concat(someShapes, noShapes) {
				changed := n
				changed.Shape = own
				wantShape(t, g.Nodes[:i], changed, n.Shape)
				wrong := copied(g)
				wrong.Nodes[i] = changed
				if !slices.Equal(own, n.Shape) {
					wantRight(t, wrong, false)
				}
			}
		}
	}
}

// P10.1: the nodes of right graphs, with one field changed or more.
func TestInferChanged(t *testing.T) {
	s := &source{state: 2}
	found := map[bool]int{}
	for range 20000 {
		g := s.graph(1 + s.below(12))
		n := s.node(len(g.Nodes))
		for range s.below(3) {
			n = s.changed(n, len(g.Nodes))
		}
		before := copied(g)
		wantInferAsDocument(t, g.Nodes, n)
		if !reflect.DeepEqual(copied(g), before) {
			t.Fatal("Infer changed the nodes")
		}
		_, ok := inferByDocument(g.Nodes, n)
		found[ok]++
	}
	if found[true] < 2000 || found[false] < 2000 {
		t.Fatalf("of both kinds: %v", found)
	}
}

// P10.1: names that others have do not count for Infer, but for Right, of params and inputs together.
func TestNamesTwice(t *testing.T) {
	for _, first := range []string{"param", "input"} {
		for _, second := range []string{"param", "input"} {
			l := []api.Node{{Op: first, Name: "w"}, {Op: second, Name: "w"}, {Op: second, Name: "v"}}
			wantShape(t, l[:1], l[1], nil)
			wantRight(t, api.Graph{Nodes: l[:2]}, false)
			wantRight(t, api.Graph{Nodes: []api.Node{l[0], l[2]}}, true)
			wantRight(t, api.Graph{Nodes: []api.Node{l[2], l[0]}}, true)
			wantRight(t, api.Graph{Nodes: []api.Node{l[2], l[0], {Op: "sum"}, l[1]}}, false)
		}
	}
}

// P10.1: graphs by hand, and graphs that are nearly these.
func TestRightByHand(t *testing.T) {
	w := api.Node{Op: "param", Name: "w", Shape: []int{2, 3}}
	x := api.Node{Op: "input", Name: "x", Shape: []int{3, 1}}
	y := api.Node{Op: "matmul", A: 0, B: 1, Shape: []int{2, 1}}
	s := api.Node{Op: "sum", A: 2}
	none := api.Node{Op: "const", Data: []string{"1/2"}}
	for _, c := range []struct {
		nodes []api.Node
		loss  int
		want  bool
	}{
		{[]api.Node{{Op: "param", Name: "w"}}, 0, true},
		{[]api.Node{none}, 0, true},
		{[]api.Node{w, x, y, s}, 3, true},
		{[]api.Node{w, x, y, s, none}, 4, true},
		{[]api.Node{w, x, y, s, none, y}, 3, true},
		{nil, 0, false},
		{[]api.Node{}, 0, false},
		{[]api.Node{w}, 0, false},
		{[]api.Node{w, x, y, s}, 2, false},
		{[]api.Node{w, x, y, s}, 4, false},
		{[]api.Node{w, x, y, s}, -1, false},
		{[]api.Node{w, x, y, s}, math.MaxInt, false},
		{[]api.Node{w, x, y, s}, math.MinInt, false},
		{[]api.Node{w, x, s, y}, 2, false},
		{[]api.Node{x, w, y, s}, 3, false},
		{[]api.Node{none, {Op: "add", A: 0, B: 1}}, 0, false},
		{[]api.Node{none, {Op: "relu", A: 1}}, 0, false},
		{[]api.Node{none, {Op: "relu", A: 2}, none}, 0, false},
		{[]api.Node{none, {Op: "relu", A: 0, Shape: []int{1}}}, 0, false},
		{[]api.Node{none, {}}, 0, false},
	} {
		g := api.Graph{Nodes: c.nodes, Loss: c.loss}
		wantRight(t, g, c.want)
		if rightByDocument(g) != c.want {
			t.Fatalf("the document tells otherwise: %+v", g)
		}
	}
}

// P10.1: from 1 to MaxNodes nodes.
func TestRightLengths(t *testing.T) {
	if api.MaxNodes != 200 {
		t.Fatalf("MaxNodes: %d", api.MaxNodes)
	}
	nodes := []api.Node{{Op: "param", Name: "w"}}
	for len(nodes) <= 250 {
		for _, loss := range []int{0, len(nodes) / 2, len(nodes) - 1} {
			wantRight(t, api.Graph{Nodes: nodes, Loss: loss}, len(nodes) <= 200)
		}
		wantRight(t, api.Graph{Nodes: nodes, Loss: len(nodes)}, false)
		nodes = append(nodes, api.Node{Op: "add", A: len(nodes) - 1, B: 0})
	}
	wantShape(t, nodes, api.Node{Op: "relu", A: 250}, nil)
	wantRight(t, api.Graph{Nodes: slices.Repeat([]api.Node{{Op: "const", Data: []string{"1"}}}, 1<<16)}, false)
}

// P10.1: right graphs, and what comes of them by a change or more.
func TestRightChanged(t *testing.T) {
	s := &source{state: 3}
	found := map[bool]int{}
	for range 20000 {
		g := s.graph(1 + s.below(12))
		wantRight(t, g, true)
		for i, n := range g.Nodes {
			wantShape(t, g.Nodes[:i], n, n.Shape)
		}
		at := s.below(len(g.Nodes))
		switch s.below(6) {
		case 0:
			g.Loss = s.below(len(g.Nodes)+4) - 2
		case 1:
			g.Nodes = slices.Delete(g.Nodes, at, at+1)
		case 2:
			g.Nodes = slices.Insert(g.Nodes, at, g.Nodes[s.below(len(g.Nodes))])
		case 3:
			other := s.below(len(g.Nodes))
			g.Nodes[at], g.Nodes[other] = g.Nodes[other], g.Nodes[at]
		default:
			g.Nodes[at] = s.changed(g.Nodes[at], at)
		}
		wantRight(t, g, rightByDocument(g))
		found[rightByDocument(g)]++
	}
	if found[true] < 2000 || found[false] < 2000 {
		t.Fatalf("of both kinds: %v", found)
	}
}

// P1: any nodes and any graphs, also such as are not right.
func TestAnyNodes(t *testing.T) {
	s := &source{state: 4}
	for range 20000 {
		var g api.Graph
		for range s.below(6) {
			n := api.Node{Op: s.one(append(allOps(), noOps...))}
			for range 3 + s.below(6) {
				n = s.changed(n, 3)
			}
			g.Nodes = append(g.Nodes, n)
		}
		g.Loss = s.below(8) - 2
		wantRight(t, g, rightByDocument(g))
		for _, n := range g.Nodes {
			wantInferAsDocument(t, g.Nodes, n)
		}
	}
}

// R1: a shape that is answered is new memory.
func TestInferNewMemory(t *testing.T) {
	l := some()
	own := []int{2, 3}
	for _, n := range []api.Node{
		{Op: "param", Name: "y", Shape: own}, {Op: "const", Shape: own, Data: slices.Repeat([]string{"1"}, 6)},
		{Op: "reshape", A: 7, Shape: own}, {Op: "spread", Shape: own},
		{Op: "relu", A: 7}, {Op: "add", A: 7, B: 7}, {Op: "scale", A: 7, K: "1"}, {Op: "power", A: 7}, {Op: "transpose", A: 8},
	} {
		got, ok := graph.Infer(l, n)
		if !ok || !slices.Equal(got, []int{2, 3}) {
			t.Fatalf("Infer of %+v: %v, %v", n, got, ok)
		}
		got[0], got[1] = 50, 60
		if !slices.Equal(own, []int{2, 3}) || !reflect.DeepEqual(l, some()) {
			t.Fatalf("Infer of %+v shares its shape", n)
		}
	}
	if !slices.Equal(someShapes[7], []int{2, 3}) || !slices.Equal(someShapes[8], []int{3, 2}) {
		t.Fatal("a shape was changed")
	}
}
