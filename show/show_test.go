package show_test

import (
	"fmt"
	"math"
	"reflect"
	"slices"
	"strconv"
	"strings"
	"testing"

	"tapewright/api"
	"tapewright/graph"
	"tapewright/lex"
	"tapewright/read"
	"tapewright/show"
)

// lines are the document's, of layer 9, with N the node's own name, A and B those of its parts, and what else it has.
var lines = map[string]string{
	"param": "param N DIMS", "input": "input N DIMS", "const": "const N DIMS = DATA",
	"add": "N = add A B", "sub": "N = sub A B", "mul": "N = mul A B", "max": "N = max A B", "above": "N = above A B", "matmul": "N = matmul A B",
	"relu": "N = relu A", "abs": "N = abs A", "step": "N = step A", "sign": "N = sign A", "transpose": "N = transpose A", "sum": "N = sum A",
	"scale": "N = scale A K", "power": "N = power A POWER", "reshape": "N = reshape A DIMS", "spread": "N = spread A DIMS",
}

var (
	rationals  = []string{"0", "1", "-1", "1/2", "-7/3", "99999999999999999999", "-1/99999999999999999999"}
	someShapes = [][]int{nil, nil, {1}, {2}, {3}, {1, 1}, {1, 2}, {2, 1}, {2, 3}, {3, 2}, {2, 2}, {6}, {64}, {8, 8}, {1, 64}, {16, 4}, {1, 2, 3}, {2, 2, 2, 8}, {1, 1, 1, 1}, {2, 1, 3, 1}}
	noOps      = []string{"", "loss", "neg", "Param", "adds", "add ", "ADD", "\xff", "=", "a\nloss"}
	noNames    = []string{"", "2", "2w", "W", "w_", "abcdefghi", "w ", " w", "w#", "\xff", "w\n", "w\nloss w"}
	notWords   = []string{"", "-", "a", "00", "01", "-0", "+1", "1.5", "1/1", "2/4", "1/0", " 1", "1 ", "1\n", "1 # more", "\xff"}
)

func allOps() []string {
	var list []string
	for op := range lines {
		list = append(list, op)
	}
	slices.Sort(list)
	return list
}

// namesByDocument tries one z more, up to seven, till none of what the others would be called is a Name.
func namesByDocument(nodes []api.Node) []string {
	var names []string
	for z := 0; z < 8; z++ {
		names = nil
		clash := false
		for i, n := range nodes {
			if n.Op == "param" || n.Op == "input" {
				names = append(names, n.Name)
				continue
			}
			name := fmt.Sprintf("n%s%d", "zzzzzzzz"[:z], i)
			clash = clash || slices.ContainsFunc(nodes, func(other api.Node) bool { return other.Name == name })
			names = append(names, name)
		}
		if !clash {
			break
		}
	}
	return names
}

// textByDocument is that of a right graph; false, if a name is too long.
func textByDocument(g api.Graph) (string, bool) {
	names := namesByDocument(g.Nodes)
	text := ""
	for i, n := range g.Nodes {
		var words []string
		for _, word := range strings.Split(lines[n.Op], " ") {
			switch word {
			case "N":
				words = append(words, names[i])
			case "A":
				words = append(words, names[n.A])
			case "B":
				words = append(words, names[n.B])
			case "K":
				words = append(words, n.K)
			case "POWER":
				words = append(words, fmt.Sprint(n.N))
			case "DIMS":
				for _, count := range n.Shape {
					words = append(words, fmt.Sprint(count))
				}
			case "DATA":
				words = append(words, n.Data...)
			default:
				words = append(words, word)
			}
		}
		text += strings.Join(words, " ") + "\n"
	}
	return text + "loss " + names[g.Loss] + "\n", !slices.ContainsFunc(names, func(name string) bool { return len(name) > 8 })
}

// source makes numbers that are the same at each run.
type source struct {
	state uint64
}

func (s *source) below(limit int) int {
	s.state = s.state*6364136223846793005 + 1442695040888963407
	return int(s.state>>33) % limit
}

func (s *source) one(list []string) string {
	return list[s.below(len(list))]
}

func (s *source) data(shape []int) []string {
	size := 1
	for _, n := range shape {
		size *= n
	}
	var list []string
	for range size {
		list = append(list, s.one(rationals))
	}
	return list
}

// name is often one that a node without a Name would have.
func (s *source) name() string {
	if s.below(2) == 0 {
		return s.one([]string{"a", "w", "loss", "const", "n", "nz", "z", "x", "n0z"}) + strconv.Itoa(s.below(1000))
	}
	return "n" + "zzzzzz"[:s.below(1+s.below(7))] + strconv.Itoa(s.below(16))
}

// node has what its operation must have, mostly.
func (s *source) node(count int, op string) api.Node {
	n := api.Node{Op: op, A: s.below(count), B: s.below(count)}
	switch op {
	case "param", "input", "const":
		n.A, n.B, n.Shape = 0, 0, slices.Clone(someShapes[s.below(len(someShapes))])
		if op == "const" {
			n.Data = s.data(n.Shape)
		} else {
			n.Name = s.name()
		}
		return n
	case "add", "sub", "mul", "max", "above", "matmul":
		return n
	case "scale":
		n.K = s.one(rationals)
	case "power":
		n.N = s.below(7)
	case "reshape", "spread":
		n.Shape = slices.Clone(someShapes[s.below(len(someShapes))])
	}
	n.B = 0
	return n
}

// graph is a right one.
func (s *source) graph(count int, ops []string) api.Graph {
	g := api.Graph{Nodes: []api.Node{{Op: "param", Name: "w"}}}
	if s.below(2) == 0 {
		g.Nodes[0] = api.Node{Op: "const", Data: []string{s.one(rationals)}}
	}
	for len(g.Nodes) < count {
		n := s.node(len(g.Nodes), s.one(ops))
		shape, ok := graph.Infer(g.Nodes, n)
		if !ok || n.Name != "" && slices.ContainsFunc(g.Nodes, func(other api.Node) bool { return other.Name == n.Name }) {
			continue
		}
		n.Shape = shape
		g.Nodes = append(g.Nodes, n)
	}
	for g.Loss = s.below(count); len(g.Nodes[g.Loss].Shape) > 0; {
		g.Loss = s.below(count)
	}
	return g
}

// changed has one field that is another than before.
func (s *source) changed(n api.Node) api.Node {
	numbers := []int{-1, 0, 1, 2, 3, 6, 7, 65, math.MaxInt, math.MinInt}
	switch s.below(8) {
	case 0:
		n.Op = s.one(append(allOps(), noOps...))
	case 1:
		n.A = numbers[s.below(len(numbers))]
	case 2:
		n.B = numbers[s.below(len(numbers))]
	case 3:
		n.Name = s.one(append([]string{"a", "n1", "nz2"}, noNames...))
	case 4:
		n.Shape = append(slices.Clone(n.Shape), numbers[s.below(len(numbers))])
	case 5:
		n.K = s.one(slices.Concat(rationals, notWords))
	case 6:
		n.N = numbers[s.below(len(numbers))]
	case 7:
		n.Data = append(slices.Clone(n.Data), s.one(slices.Concat(rationals, notWords)))
	}
	return n
}

func copied(g api.Graph) api.Graph {
	nodes := slices.Clone(g.Nodes)
	for i := range nodes {
		nodes[i].Shape = slices.Clone(nodes[i].Shape)
		nodes[i].Data = slices.Clone(nodes[i].Data)
	}
	return api.Graph{Nodes: nodes, Loss: g.Loss}
}

// alike takes lists that are nil and that are empty as the same.
func alike(a, b api.Graph) bool {
	return a.Loss == b.Loss && slices.EqualFunc(a.Nodes, b.Nodes, func(m, n api.Node) bool {
		return m.Op == n.Op && m.A == n.A && m.B == n.B && m.Name == n.Name && slices.Equal(m.Shape, n.Shape) && m.K == n.K && m.N == n.N && slices.Equal(m.Data, n.Data)
	})
}

func wantText(t *testing.T, g api.Graph, want string) {
	t.Helper()
	before := copied(g)
	got, e := show.Text(g)
	if e != api.OK || got != want {
		t.Fatalf("Text of %d nodes: %d, %q, not %q", len(g.Nodes), e, got, want)
	}
	if !reflect.DeepEqual(copied(g), before) {
		t.Fatal("Text changed its graph")
	}
	wantBack(t, g, got)
}

// wantBack reads the text and builds it.
func wantBack(t *testing.T, g api.Graph, text string) {
	t.Helper()
	list, at, e := read.All(text)
	if e != api.OK || len(list) != len(g.Nodes)+1 {
		t.Fatalf("not read: %d, line %d, %d statements: %q", e, at, len(list), text)
	}
	built, at, e := graph.Build(list)
	if e != api.OK || !alike(built, g) {
		t.Fatalf("not built to the graph: %d at %d: %+v, not %+v", e, at, built, g)
	}
}

func wantNoText(t *testing.T, g api.Graph) {
	t.Helper()
	before := copied(g)
	if got, e := show.Text(g); e != api.ErrArg || got != "" {
		t.Fatalf("Text of %d nodes, loss %d: %d, %q", len(g.Nodes), g.Loss, e, got)
	}
	if !reflect.DeepEqual(copied(g), before) {
		t.Fatal("Text changed its graph")
	}
}

func wantAsDocument(t *testing.T, g api.Graph) {
	t.Helper()
	if !graph.Right(g) {
		wantNoText(t, g)
		return
	}
	if want, ok := textByDocument(g); ok {
		wantText(t, g, want)
	} else {
		wantNoText(t, g)
	}
}

// all has a node of each row of layer 10's table, and a loss.
func all() api.Graph {
	return api.Graph{Nodes: []api.Node{
		{Op: "param", Name: "w", Shape: []int{2, 3}},
		{Op: "input", Name: "x", Shape: []int{3, 2}},
		{Op: "const", Shape: []int{2}, Data: []string{"1", "-1/2"}},
		{Op: "matmul", A: 0, B: 1, Shape: []int{2, 2}},
		{Op: "transpose", A: 0, Shape: []int{3, 2}},
		{Op: "add", A: 4, B: 1, Shape: []int{3, 2}},
		{Op: "sub", A: 1, B: 5, Shape: []int{3, 2}},
		{Op: "mul", A: 6, B: 6, Shape: []int{3, 2}},
		{Op: "max", A: 7, B: 1, Shape: []int{3, 2}},
		{Op: "above", A: 1, B: 7, Shape: []int{3, 2}},
		{Op: "relu", A: 9, Shape: []int{3, 2}},
		{Op: "abs", A: 10, Shape: []int{3, 2}},
		{Op: "step", A: 11, Shape: []int{3, 2}},
		{Op: "sign", A: 12, Shape: []int{3, 2}},
		{Op: "scale", A: 13, K: "-7/3", Shape: []int{3, 2}},
		{Op: "power", A: 14, N: 6, Shape: []int{3, 2}},
		{Op: "power", A: 0, Shape: []int{2, 3}},
		{Op: "sum", A: 15},
		{Op: "reshape", A: 16, Shape: []int{1, 6, 1}},
		{Op: "spread", A: 17, Shape: []int{2, 1, 2, 1}},
		{Op: "const", Data: []string{"0"}},
		{Op: "spread", A: 20},
		{Op: "reshape", A: 21},
		{Op: "sub", A: 0, B: 0, Shape: []int{2, 3}},
		{Op: "add", A: 20, B: 17},
	}, Loss: 24}
}

const allText = `param w 2 3
input x 3 2
const n2 2 = 1 -1/2
n3 = matmul w x
n4 = transpose w
n5 = add n4 x
n6 = sub x n5
n7 = mul n6 n6
n8 = max n7 x
n9 = above x n7
n10 = relu n9
n11 = abs n10
n12 = step n11
n13 = sign n12
n14 = scale n13 -7/3
n15 = power n14 6
n16 = power w 0
n17 = sum n15
n18 = reshape n16 1 6 1
n19 = spread n17 2 1 2 1
const n20 = 0
n21 = spread n20
n22 = reshape n21
n23 = sub w w
n24 = add n20 n17
`

// P11.1, P11.2: the document's examples.
func TestExamples(t *testing.T) {
	wantText(t, api.Graph{Nodes: []api.Node{{Op: "param", Name: "w"}}}, "param w\nloss w\n")
	wantText(t, api.Graph{Nodes: []api.Node{
		{Op: "param", Name: "w", Shape: []int{2}}, {Op: "input", Name: "x", Shape: []int{2}},
		{Op: "mul", A: 0, B: 1, Shape: []int{2}}, {Op: "sum", A: 2},
	}, Loss: 3}, "param w 2\ninput x 2\nn2 = mul w x\nn3 = sum n2\nloss n3\n")
}

// P11.1, P11.2: a node of each row, and a loss that is any of those that may be.
func TestEachRow(t *testing.T) {
	g := all()
	found := map[string]bool{}
	for _, n := range g.Nodes {
		found[n.Op] = true
	}
	if len(found) != 19 || len(lines) != 19 {
		t.Fatalf("of %d rows", len(found))
	}
	for at, n := range g.Nodes {
		g.Loss = at
		if len(n.Shape) == 0 {
			wantText(t, g, allText+"loss n"+strconv.Itoa(at)+"\n")
		} else {
			wantNoText(t, g)
		}
	}
	for loss, text := range []string{"param a\n", "input b\n", "const n2 = 1/2\n"} {
		g := api.Graph{Nodes: []api.Node{{Op: "param", Name: "a"}, {Op: "input", Name: "b"}, {Op: "const", Data: []string{"1/2"}}}, Loss: loss}
		wantText(t, g, "param a\ninput b\nconst n2 = 1/2\nloss "+[]string{"a", "b", "n2"}[loss]+"\n")
		one := api.Graph{Nodes: g.Nodes[loss : loss+1]}
		wantText(t, one, strings.Replace(text, "n2", "n0", 1)+"loss "+[]string{"a", "b", "n0"}[loss]+"\n")
	}
}

// P11.1, P11.2: words that a text has elsewhere are names, too.
func TestNamesThatAreOtherWords(t *testing.T) {
	for _, name := range []string{"param", "input", "const", "loss", "add", "sum", "scale", "n", "nz", "z", "n1z", "nzn1", "abcdefgh", "z9999999"} {
		for _, op := range []string{"param", "input"} {
			g := api.Graph{Nodes: []api.Node{{Op: op, Name: name}, {Op: "add", A: 0, B: 0}, {Op: "scale", A: 1, K: "1/2"}}, Loss: 2}
			wantText(t, g, op+" "+name+"\nn1 = add "+name+" "+name+"\nn2 = scale n1 1/2\nloss n2\n")
			g.Loss = 0
			wantText(t, g, op+" "+name+"\nn1 = add "+name+" "+name+"\nn2 = scale n1 1/2\nloss "+name+"\n")
		}
	}
}

// P11.1: shapes of all ranks and constants of the shape of none and of 64 numbers.
func TestShapesAndConstants(t *testing.T) {
	s := &source{state: 1}
	for _, shape := range someShapes {
		dims := ""
		for _, n := range shape {
			dims += " " + strconv.Itoa(n)
		}
		data := s.data(shape)
		g := api.Graph{Nodes: []api.Node{{Op: "const", Shape: shape, Data: data}, {Op: "sum"}, {Op: "spread", A: 1, Shape: shape}, {Op: "reshape", A: 2, Shape: shape}}, Loss: 1}
		wantText(t, g, "const n0"+dims+" = "+strings.Join(data, " ")+"\nn1 = sum n0\nn2 = spread n1"+dims+"\nn3 = reshape n2"+dims+"\nloss n1\n")
		for _, op := range []string{"param", "input"} {
			g := api.Graph{Nodes: []api.Node{{Op: op, Name: "w", Shape: shape}, {Op: "sum"}}, Loss: 1}
			wantText(t, g, op+" w"+dims+"\nn1 = sum w\nloss n1\n")
		}
	}
	for power := range 7 {
		g := api.Graph{Nodes: []api.Node{{Op: "input", Name: "x"}, {Op: "power", N: power}}, Loss: 1}
		wantText(t, g, "input x\nn1 = power x "+strconv.Itoa(power)+"\nloss n1\n")
	}
	digits := strings.Repeat("7", 1<<16)
	g := api.Graph{Nodes: []api.Node{{Op: "const", Data: []string{"-" + digits}}, {Op: "scale", K: "1/" + digits}}, Loss: 1}
	wantText(t, g, "const n0 = -"+digits+"\nn1 = scale n0 1/"+digits+"\nloss n1\n")
}

// named is some params and inputs of these names, with count nodes behind them that have none.
func named(names []string, count int) api.Graph {
	var g api.Graph
	for i, name := range names {
		g.Nodes = append(g.Nodes, api.Node{Op: []string{"param", "input"}[i%2], Name: name})
	}
	for range count {
		g.Nodes = append(g.Nodes, api.Node{Op: "const", Data: []string{"1"}})
	}
	g.Loss = len(g.Nodes) - 1
	return g
}

// stem is what the last node's name has ahead of its place.
func stem(t *testing.T, g api.Graph) string {
	t.Helper()
	text, e := show.Text(g)
	if e != api.OK {
		t.Fatalf("Text: %d", e)
	}
	wantBack(t, g, text)
	words := strings.Fields(text)
	return strings.TrimRight(words[len(words)-1], "0123456789")
}

// P11.1: where a Name is n and another's place, all that have no Name have one z or more.
func TestNamesThatAreThere(t *testing.T) {
	for _, c := range []struct {
		names []string
		count int
		want  string
	}{
		{[]string{"w"}, 3, "n"},
		{[]string{"n1"}, 3, "nz"},
		{[]string{"n2"}, 3, "nz"},
		{[]string{"n3"}, 3, "nz"},
		{[]string{"a", "n2"}, 3, "nz"},
		{[]string{"n3", "a"}, 3, "nz"},
		{[]string{"a", "n4"}, 3, "nz"},
		{[]string{"n5", "a"}, 3, "n"},
		{[]string{"n4"}, 3, "n"},
		{[]string{"n10"}, 3, "n"},
		{[]string{"n10"}, 10, "nz"},
		{[]string{"n01"}, 3, "n"},
		{[]string{"n1z"}, 3, "n"},
		{[]string{"nz1"}, 3, "n"},
		{[]string{"n"}, 3, "n"},
		{[]string{"nz"}, 3, "n"},
		{[]string{"n99999"}, 3, "n"},
		{[]string{"n0"}, 3, "n"},
		{[]string{"a", "n0"}, 3, "n"},
		{[]string{"a", "n1"}, 3, "n"},
		{[]string{"n1", "n0"}, 3, "n"},
		{[]string{"n2", "nz3"}, 3, "nzz"},
		{[]string{"nz3", "n2"}, 3, "nzz"},
		{[]string{"n2", "nz1"}, 3, "nz"},
		{[]string{"n2", "nz5"}, 3, "nz"},
		{[]string{"n2", "nzz3"}, 3, "nz"},
		{[]string{"nz2", "nzz3"}, 3, "n"},
		{[]string{"n3", "nz4", "nzz5"}, 3, "nzzz"},
		{[]string{"nzz3", "n5", "nz4"}, 3, "nzzz"},
		{[]string{"n4", "nz4", "nzz4", "nzzz4"}, 3, "nzzzz"},
	} {
		g := named(c.names, c.count)
		if got := stem(t, g); got != c.want {
			t.Fatalf("%v, and %d others: %q, not %q", c.names, c.count, got, c.want)
		}
		wantAsDocument(t, g)
	}
}

// P11.1: a Name may stand behind the nodes whose name it has.
func TestNamesThatAreThereBehind(t *testing.T) {
	for _, op := range []string{"param", "input"} {
		g := api.Graph{Nodes: []api.Node{{Op: "const", Data: []string{"3"}}, {Op: "relu"}, {Op: op, Name: "n0"}, {Op: "add", A: 1, B: 2}}, Loss: 3}
		wantText(t, g, "const nz0 = 3\nnz1 = relu nz0\n"+op+" n0\nnz3 = add nz1 n0\nloss nz3\n")
		g.Nodes[2].Name = "n3"
		wantText(t, g, "const nz0 = 3\nnz1 = relu nz0\n"+op+" n3\nnz3 = add nz1 n3\nloss nz3\n")
		g.Nodes[2].Name = "n2"
		wantText(t, g, "const n0 = 3\nn1 = relu n0\n"+op+" n2\nn3 = add n1 n2\nloss n3\n")
	}
}

// P11.1: ErrArg, if a name would have more than 8 bytes.
func TestNamesTooLong(t *testing.T) {
	if api.MaxName != 8 {
		t.Fatalf("MaxName: %d", api.MaxName)
	}
	zs := "zzzzzzz"
	// Place 9 has 1 digit, so that 6 z fit; place 10 and 99 have 2, and 100 and 199 have 3.
	for _, c := range []struct {
		last, fit int
	}{{9, 6}, {10, 5}, {11, 5}, {99, 5}, {100, 4}, {101, 4}, {199, 4}} {
		for count := range 8 {
			var names []string
			for z := range count {
				names = append(names, "n"+zs[:z]+"9")
			}
			g := named(names, c.last+1-len(names))
			if len(g.Nodes) != c.last+1 {
				t.Fatalf("%d nodes", len(g.Nodes))
			}
			if len(names) > c.fit {
				wantNoText(t, g)
			} else {
				wantAsDocument(t, g)
				if got := stem(t, g); got != "n"+zs[:len(names)] {
					t.Fatalf("%v, up to %d: %q", names, c.last, got)
				}
			}
		}
	}
	// Where all have a Name, there is none that is too long.
	wantAsDocument(t, named([]string{"n1", "nz1", "nzz1", "nzzz1", "nzzzz1", "nzzzzz1", "nzzzzzz1"}, 0))
	wantNoText(t, named([]string{"n7", "nz7", "nzz7", "nzzz7", "nzzzz7", "nzzzzz7", "nzzzzzz7"}, 1))
	wantAsDocument(t, named([]string{"n6", "nz6", "nzz6", "nzzz6", "nzzzz6", "nzzzzz6"}, 1))
}

// P11.1: from 1 to 200 nodes.
func TestCounts(t *testing.T) {
	text := "param w\n"
	g := api.Graph{Nodes: []api.Node{{Op: "param", Name: "w"}}}
	name := "w"
	for len(g.Nodes) <= 200 {
		wantText(t, g, text+"loss "+name+"\n")
		last := len(g.Nodes) - 1
		text += "n" + strconv.Itoa(last+1) + " = sub " + name + " w\n"
		name = "n" + strconv.Itoa(last+1)
		g.Nodes = append(g.Nodes, api.Node{Op: "sub", A: last})
		g.Loss = last + 1
	}
	wantNoText(t, g)
	g.Loss = 0
	wantNoText(t, g)
	wantNoText(t, api.Graph{})
	wantNoText(t, api.Graph{Nodes: []api.Node{}})
	wantNoText(t, api.Graph{Loss: 1})
}

// P11.1: ErrArg of a graph that is not right, in each way.
func TestNotRight(t *testing.T) {
	for name, turn := range map[string]func(g *api.Graph){
		"no operation":          func(g *api.Graph) { g.Nodes[10].Op = "neg" },
		"a loss":                func(g *api.Graph) { g.Nodes[10].Op = "loss" },
		"no Name":               func(g *api.Graph) { g.Nodes[0].Name = "" },
		"no name":               func(g *api.Graph) { g.Nodes[1].Name = "2x" },
		"a name of 9 bytes":     func(g *api.Graph) { g.Nodes[1].Name = "abcdefghi" },
		"a line more":           func(g *api.Graph) { g.Nodes[1].Name = "x\n" },
		"a Name twice":          func(g *api.Graph) { g.Nodes[1].Name = "w" },
		"a Name of another":     func(g *api.Graph) { g.Nodes[10].Name = "r" },
		"a Name of a const":     func(g *api.Graph) { g.Nodes[2].Name = "c" },
		"a number short":        func(g *api.Graph) { g.Nodes[2].Data = []string{"1"} },
		"a number more":         func(g *api.Graph) { g.Nodes[2].Data = []string{"1", "2", "3"} },
		"no rational":           func(g *api.Graph) { g.Nodes[2].Data = []string{"1", "2/4"} },
		"Data of another":       func(g *api.Graph) { g.Nodes[0].Data = []string{"1"} },
		"unlike shapes":         func(g *api.Graph) { g.Nodes[5].B = 0 },
		"rows and columns":      func(g *api.Graph) { g.Nodes[3].B = 0 },
		"A behind":              func(g *api.Graph) { g.Nodes[10].A = 11 },
		"A itself":              func(g *api.Graph) { g.Nodes[10].A = 10 },
		"A below 0":             func(g *api.Graph) { g.Nodes[10].A = -1 },
		"B behind":              func(g *api.Graph) { g.Nodes[9].B = 10 },
		"B below 0":             func(g *api.Graph) { g.Nodes[9].B = -1 },
		"A of none":             func(g *api.Graph) { g.Nodes[2].A = 1 },
		"B of one":              func(g *api.Graph) { g.Nodes[10].B = 1 },
		"no K":                  func(g *api.Graph) { g.Nodes[14].K = "" },
		"K no rational":         func(g *api.Graph) { g.Nodes[14].K = "1/1" },
		"K of another":          func(g *api.Graph) { g.Nodes[15].K = "1" },
		"N above 6":             func(g *api.Graph) { g.Nodes[15].N = 7 },
		"N below 0":             func(g *api.Graph) { g.Nodes[15].N = -1 },
		"N of another":          func(g *api.Graph) { g.Nodes[14].N = 1 },
		"transposed none":       func(g *api.Graph) { g.Nodes[4].A = 2 },
		"reshaped otherwise":    func(g *api.Graph) { g.Nodes[18].Shape = []int{5} },
		"spread of more":        func(g *api.Graph) { g.Nodes[19].A = 16 },
		"another shape":         func(g *api.Graph) { g.Nodes[10].Shape = []int{2, 3} },
		"no shape of its own":   func(g *api.Graph) { g.Nodes[10].Shape = nil },
		"a shape of five":       func(g *api.Graph) { g.Nodes[0].Shape = []int{1, 1, 1, 1, 1} },
		"a shape of 0":          func(g *api.Graph) { g.Nodes[19].Shape = []int{0} },
		"a shape of 65":         func(g *api.Graph) { g.Nodes[19].Shape = []int{65} },
		"a loss of a shape":     func(g *api.Graph) { g.Loss = 3 },
		"a loss behind":         func(g *api.Graph) { g.Loss = 25 },
		"a loss below 0":        func(g *api.Graph) { g.Loss = -1 },
		"a loss far off":        func(g *api.Graph) { g.Loss = math.MaxInt },
		"a loss as far, below":  func(g *api.Graph) { g.Loss = math.MinInt },
		"no nodes":              func(g *api.Graph) { g.Nodes = nil },
		"201 nodes, as it were": func(g *api.Graph) { g.Nodes = append(g.Nodes, slices.Repeat(g.Nodes[24:], 176)...) },
	} {
		g := all()
		turn(&g)
		if graph.Right(g) {
			t.Fatalf("right in spite of: %s", name)
		}
		wantNoText(t, g)
	}
}

// P11.1, P11.2: right graphs of some nodes, of which many have Names that others would have.
func TestRightGraphs(t *testing.T) {
	s := &source{state: 2}
	found := map[int]int{}
	ops := allOps()
	for round := range 3000 {
		some := ops
		if round%3 == 0 {
			some = []string{"param", "input", "param", "input", "const", "add"}
		}
		g := s.graph(1+s.below(20), some)
		wantAsDocument(t, g)
		for i, name := range namesByDocument(g.Nodes) {
			if g.Nodes[i].Name == "" {
				found[strings.Count(name, "z")]++
				break
			}
		}
	}
	if found[0] < 500 || found[1] < 200 || found[2] < 40 || found[3] < 5 {
		t.Fatalf("of each count of z: %v", found)
	}
}

// P11.2: a graph that was built is told by a text that is built to the same.
func TestTextsBack(t *testing.T) {
	s := &source{state: 3}
	for range 60 {
		g := s.graph(100+s.below(101), allOps())
		text, ok := textByDocument(g)
		if !ok {
			continue
		}
		wantText(t, g, text)
		for i, line := range lex.Lines(text) {
			if line.At != i+1 || strings.Join(line.Words, " ") != strings.Split(text, "\n")[i] {
				t.Fatalf("line %d: %+v", i+1, line)
			}
		}
	}
	list, _, _ := read.All("param  y 2 # two\n\nr = relu y\nconst n1 2 = 3 4\nm = mul r n1\nend = sum m\nloss end\nlater = scale end 0\n")
	g, _, e := graph.Build(list)
	if e != api.OK {
		t.Fatalf("not built: %d", e)
	}
	wantText(t, g, "param y 2\nn1 = relu y\nconst n2 2 = 3 4\nn3 = mul n1 n2\nn4 = sum n3\nn5 = scale n4 0\nloss n4\n")
}

// P1: any graphs, also such as are not right.
func TestAnyGraphs(t *testing.T) {
	s := &source{state: 4}
	found := map[bool]int{}
	for range 20000 {
		var g api.Graph
		if s.below(4) > 0 {
			g = s.graph(1+s.below(6), allOps())
		}
		for range s.below(3) {
			if at := s.below(len(g.Nodes) + 1); at < len(g.Nodes) {
				g.Nodes[at] = s.changed(g.Nodes[at])
			} else {
				g.Nodes = append(g.Nodes, s.changed(api.Node{Op: s.one(allOps())}))
			}
		}
		if s.below(4) == 0 {
			g.Loss = s.below(10) - 2
		}
		wantAsDocument(t, g)
		found[graph.Right(g)]++
	}
	if found[true] < 2000 || found[false] < 2000 {
		t.Fatalf("of both kinds: %v", found)
	}
	wantNoText(t, api.Graph{Nodes: make([]api.Node, 1<<16)})
	wantNoText(t, api.Graph{Nodes: slices.Repeat([]api.Node{{Op: "const", Data: []string{"1"}}}, 1<<16)})
}
