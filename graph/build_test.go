package graph_test

import (
	"reflect"
	"slices"
	"strconv"
	"strings"
	"testing"

	"tapewright/api"
	"tapewright/graph"
	"tapewright/read"
)

// buildByDocument goes by the document's sentence, with a list of names for each node made so far.
func buildByDocument(l []read.Stmt) (api.Graph, int, api.Errno) {
	var names []string
	var g api.Graph
	losses := 0
	for i, s := range l {
		if s.Op != "loss" && slices.Contains(names, s.Name) {
			return api.Graph{}, i, api.ErrThere
		}
		var at []int
		for _, arg := range s.Args {
			if !slices.Contains(names, arg) {
				return api.Graph{}, i, api.ErrNone
			}
			at = append(at, slices.Index(names, arg))
		}
		if s.Op == "loss" {
			switch {
			case len(at) == 0:
				return api.Graph{}, i, api.ErrNone
			case losses > 0:
				return api.Graph{}, i, api.ErrThere
			case len(at) > 1 || len(g.Nodes[at[0]].Shape) > 0:
				return api.Graph{}, i, api.ErrLoss
			}
			g.Loss, losses = at[0], 1
			continue
		}
		if len(g.Nodes) == 200 {
			return api.Graph{}, i, api.ErrLong
		}
		n, ok := nodeByDocument(s, at)
		if n.Shape, ok = inferIf(ok, g.Nodes, n); !ok {
			return api.Graph{}, i, api.ErrShape
		}
		g.Nodes, names = append(g.Nodes, n), append(names, s.Name)
	}
	if losses == 0 {
		return api.Graph{}, len(l), api.ErrLoss
	}
	return g, 0, api.OK
}

func nodeByDocument(s read.Stmt, at []int) (api.Node, bool) {
	r, ok := rows[s.Op]
	if !ok || len(at) != r.parts {
		return api.Node{}, false
	}
	at = append(at, 0, 0)
	n := api.Node{Op: s.Op, A: at[0], B: at[1], Shape: s.Dims, K: s.K, N: s.N, Data: s.Data}
	if r.field == "Name" {
		n.Name = s.Name
	}
	return n, true
}

func inferIf(ok bool, l []api.Node, n api.Node) ([]int, bool) {
	if !ok {
		return nil, false
	}
	return inferByDocument(l, n)
}

// alike takes lists that are nil and that are empty as the same.
func alike(a, b api.Graph) bool {
	return a.Loss == b.Loss && slices.EqualFunc(a.Nodes, b.Nodes, func(m, n api.Node) bool {
		return m.Op == n.Op && m.A == n.A && m.B == n.B && m.Name == n.Name && slices.Equal(m.Shape, n.Shape) && m.K == n.K && m.N == n.N && slices.Equal(m.Data, n.Data)
	})
}

func copiedStmts(l []read.Stmt) []read.Stmt {
	list := slices.Clone(l)
	for i := range list {
		list[i].Args, list[i].Dims, list[i].Data = slices.Clone(list[i].Args), slices.Clone(list[i].Dims), slices.Clone(list[i].Data)
	}
	return list
}

func stmts(t *testing.T, text string) []read.Stmt {
	t.Helper()
	l, at, e := read.All(text)
	if e != api.OK {
		t.Fatalf("no statements: %q: %d at %d", text, e, at)
	}
	return l
}

func wantBuilt(t *testing.T, l []read.Stmt, want api.Graph) {
	t.Helper()
	before := copiedStmts(l)
	got, at, e := graph.Build(l)
	if e != api.OK || at != 0 || !alike(got, want) {
		t.Fatalf("Build: %+v, %d, %d, not %+v", got, at, e, want)
	}
	if !graph.Right(got) {
		t.Fatalf("not right: %+v", got)
	}
	if !reflect.DeepEqual(copiedStmts(l), before) {
		t.Fatal("Build changed the statements")
	}
}

func wantFault(t *testing.T, l []read.Stmt, place int, fault api.Errno) {
	t.Helper()
	got, at, e := graph.Build(l)
	if e != fault || at != place || len(got.Nodes) != 0 || got.Loss != 0 {
		t.Fatalf("Build: %+v, %d, %d, not %d at %d", got, at, e, fault, place)
	}
}

func wantBuildAsDocument(t *testing.T, l []read.Stmt) api.Errno {
	t.Helper()
	want, at, e := buildByDocument(l)
	if e == api.OK {
		wantBuilt(t, l, want)
	} else {
		wantFault(t, l, at, e)
	}
	return e
}

// P10.2: the document's example, and a text with each operation.
func TestBuildByHand(t *testing.T) {
	wantBuilt(t, stmts(t, "param w\nloss w"), api.Graph{Nodes: []api.Node{{Op: "param", Name: "w"}}})
	wantBuilt(t, stmts(t, "const c = 1/2\nloss c"), api.Graph{Nodes: []api.Node{{Op: "const", Data: []string{"1/2"}}}})
	wantBuilt(t, stmts(t, `
		 # each operation
param w 2 3
input x 3 2
const c 2 2 = 1 -1/2 0 7
m = matmul w x
a = add m c
s = sub c a
p = mul s s
g = max p m
b = above g c
r = relu b
n = abs r
u = step n
v = sign u
k = scale v -2/3
q = power k 5
z = power q 0
t = transpose w
l = sum t
f = reshape w 6
h = spread l 1 4
h2 = spread l
loss l
`[3:]), api.Graph{Loss: 17, Nodes: []api.Node{
		{Op: "param", Name: "w", Shape: []int{2, 3}},
		{Op: "input", Name: "x", Shape: []int{3, 2}},
		{Op: "const", Shape: []int{2, 2}, Data: []string{"1", "-1/2", "0", "7"}},
		{Op: "matmul", A: 0, B: 1, Shape: []int{2, 2}},
		{Op: "add", A: 3, B: 2, Shape: []int{2, 2}},
		{Op: "sub", A: 2, B: 4, Shape: []int{2, 2}},
		{Op: "mul", A: 5, B: 5, Shape: []int{2, 2}},
		{Op: "max", A: 6, B: 3, Shape: []int{2, 2}},
		{Op: "above", A: 7, B: 2, Shape: []int{2, 2}},
		{Op: "relu", A: 8, Shape: []int{2, 2}},
		{Op: "abs", A: 9, Shape: []int{2, 2}},
		{Op: "step", A: 10, Shape: []int{2, 2}},
		{Op: "sign", A: 11, Shape: []int{2, 2}},
		{Op: "scale", A: 12, K: "-2/3", Shape: []int{2, 2}},
		{Op: "power", A: 13, N: 5, Shape: []int{2, 2}},
		{Op: "power", A: 14, N: 0, Shape: []int{2, 2}},
		{Op: "transpose", A: 0, Shape: []int{3, 2}},
		{Op: "sum", A: 16},
		{Op: "reshape", A: 0, Shape: []int{6}},
		{Op: "spread", A: 17, Shape: []int{1, 4}},
		{Op: "spread", A: 17},
	}})
}

// P10.2: names of operations and of statements may be names.
func TestBuildNames(t *testing.T) {
	wantBuilt(t, stmts(t, "param param\ninput input\nloss = add param input\nconst = sum loss\nconst const2 = 1\nloss loss"),
		api.Graph{Loss: 2, Nodes: []api.Node{
			{Op: "param", Name: "param"}, {Op: "input", Name: "input"}, {Op: "add", A: 0, B: 1}, {Op: "sum", A: 2}, {Op: "const", Data: []string{"1"}},
		}})
}

// P10.2: a loss that is not the last node, and whose statement stands ahead of others.
func TestBuildLoss(t *testing.T) {
	want := api.Graph{Nodes: []api.Node{{Op: "param", Name: "w"}, {Op: "input", Name: "x"}, {Op: "mul", A: 0, B: 1}}}
	lines := []string{"param w", "input x", "y = mul w x"}
	for loss, name := range []string{"w", "x", "y"} {
		want.Loss = loss
		for at := range 4 {
			l := stmts(t, strings.Join(slices.Insert(slices.Clone(lines), at, "loss "+name), "\n"))
			if at <= loss {
				wantFault(t, l, at, api.ErrNone)
			} else {
				wantBuilt(t, l, want)
			}
		}
	}
}

// P10.2: each error, and its place.
func TestBuildErrors(t *testing.T) {
	for _, c := range []struct {
		text string
		at   int
		e    api.Errno
	}{
		{"", 0, api.ErrLoss},
		{"param w", 1, api.ErrLoss},
		{"param w 2\ny = relu w", 2, api.ErrLoss},
		{"loss w", 0, api.ErrNone},
		{"param w\nloss v", 1, api.ErrNone},
		{"param w\nloss w\nloss v", 2, api.ErrNone},
		{"param w\nloss w\nloss w", 2, api.ErrThere},
		{"param w\ninput x\nloss w\nloss x", 3, api.ErrThere},
		{"param w\nparam v 2\nloss w\nloss v", 3, api.ErrThere},
		{"param w 2\nloss w", 1, api.ErrLoss},
		{"param w 1\nloss w", 1, api.ErrLoss},
		{"param w 1 1\nloss w\nloss w", 1, api.ErrLoss},
		{"param w\nparam w\nloss w", 1, api.ErrThere},
		{"param w\ninput w\nloss w", 1, api.ErrThere},
		{"param w\nconst w = 1\nloss w", 1, api.ErrThere},
		{"const w = 1\nconst w = 1\nloss w", 1, api.ErrThere},
		{"param w\nw = relu w\nloss w", 1, api.ErrThere},
		{"param w\ny = relu w\ny = relu w\nloss w", 2, api.ErrThere},
		{"param w\ny = relu w\nparam y\nloss w", 2, api.ErrThere},
		{"param w\nloss w\nparam v\nparam v", 3, api.ErrThere},
		{"y = relu w\nparam w\nloss w", 0, api.ErrNone},
		{"param w\ny = relu y\nloss w", 1, api.ErrNone},
		{"param w\ny = add w z\nloss w", 1, api.ErrNone},
		{"param w\ny = add z w\nloss w", 1, api.ErrNone},
		{"param w\nloss w\ny = add w z", 2, api.ErrNone},
		{"param w 2\nparam v 3\ny = add w v\nloss w", 2, api.ErrShape},
		{"param w 2\ny = transpose w\nloss w", 1, api.ErrShape},
		{"param w 2 3\ny = matmul w w\nloss w", 1, api.ErrShape},
		{"param w 2 3\ny = reshape w 5\nloss w", 1, api.ErrShape},
		{"param w 1\ny = spread w 2\nloss w", 1, api.ErrShape},
		{"param w 64 1\nparam v 1 64\ny = matmul w v\nloss w", 2, api.ErrShape},
		{"param w\nloss w\ny = transpose w", 2, api.ErrShape},
		// Of several the first statement's, and of one statement the one named first.
		{"param w\nw = relu z\nloss w", 1, api.ErrThere},
		{"param w\nw = transpose w\nloss w", 1, api.ErrThere},
		{"param w\ny = matmul w z\nloss w", 1, api.ErrNone},
		{"param w 2\ny = relu z\nloss w\nloss w", 1, api.ErrNone},
		{"param w 2\nloss w\ny = relu z\nparam w", 1, api.ErrLoss},
		{"param w 2\nparam w\nloss z", 1, api.ErrThere},
	} {
		l := stmts(t, c.text)
		wantFault(t, l, c.at, c.e)
		if _, at, e := buildByDocument(l); at != c.at || e != c.e {
			t.Fatalf("the document tells otherwise of %q: %d at %d", c.text, e, at)
		}
	}
	wantFault(t, nil, 0, api.ErrLoss)
	wantFault(t, []read.Stmt{}, 0, api.ErrLoss)
}

// many is a param and adds of it, this many nodes in all.
func many(count int) []read.Stmt {
	list := []read.Stmt{{Name: "n0", Op: "param"}}
	for i := 1; i < count; i++ {
		list = append(list, read.Stmt{Name: "n" + strconv.Itoa(i), Op: "add", Args: []string{"n" + strconv.Itoa(i-1), "n0"}})
	}
	return list
}

// P10.2: 200 nodes, and one more; statements of loss are no nodes.
func TestBuildLengths(t *testing.T) {
	for _, count := range []int{1, 2, 199, 200} {
		l := many(count)
		last := "n" + strconv.Itoa(count-1)
		wantFault(t, l, count, api.ErrLoss)
		loss := read.Stmt{Op: "loss", Args: []string{last}}
		got, at, e := graph.Build(append(l, loss))
		if e != api.OK || at != 0 || len(got.Nodes) != count || got.Loss != count-1 || !graph.Right(got) {
			t.Fatalf("%d nodes: %d, %d, %d at %d", count, len(got.Nodes), got.Loss, e, at)
		}
		wantBuildAsDocument(t, append(l, loss))
		wantBuildAsDocument(t, slices.Insert(slices.Clone(l), 1, read.Stmt{Op: "loss", Args: []string{"n0"}}))
	}
	full := many(200)
	loss := read.Stmt{Op: "loss", Args: []string{"n7"}}
	wantFault(t, many(201), 200, api.ErrLong)
	wantFault(t, many(300), 200, api.ErrLong)
	wantFault(t, slices.Insert(many(300), 8, loss), 201, api.ErrLong)
	for _, c := range []struct {
		s read.Stmt
		e api.Errno
	}{
		{read.Stmt{Name: "n7", Op: "param"}, api.ErrThere},
		{read.Stmt{Name: "n7", Op: "relu", Args: []string{"z"}}, api.ErrThere},
		{read.Stmt{Name: "y", Op: "relu", Args: []string{"z"}}, api.ErrNone},
		{read.Stmt{Name: "y", Op: "relu", Args: []string{"n1"}}, api.ErrLong},
		{read.Stmt{Name: "y", Op: "transpose", Args: []string{"n1"}}, api.ErrLong},
		{read.Stmt{Name: "y", Op: "what"}, api.ErrLong},
		{read.Stmt{Name: "y", Op: "param"}, api.ErrLong},
	} {
		wantFault(t, append(slices.Clone(full), c.s, loss), 200, c.e)
		wantFault(t, append(slices.Clone(full), loss, c.s), 201, c.e)
	}
}

// stmt is mostly one that goes with the names, of an operation of the table.
func (s *source) stmt(names []string) read.Stmt {
	n := s.node(0)
	made := read.Stmt{Name: "n" + strconv.Itoa(len(names)), Op: n.Op, K: n.K, N: n.N, Data: n.Data}
	if s.below(6) == 0 {
		return read.Stmt{Op: "loss", Args: []string{s.one(append(names, "z"))}}
	}
	if s.below(10) == 0 {
		made.Name = s.one(append(names, "m"))
	}
	r := rows[n.Op]
	if r.field == "Data" || strings.HasPrefix(r.shape, "its own") {
		made.Dims = n.Shape
	}
	for range r.parts {
		if len(names) == 0 || s.below(30) == 0 {
			made.Args = append(made.Args, "z")
		} else {
			made.Args = append(made.Args, s.one(names))
		}
	}
	return made
}

// lined is a statement's line.
func lined(s read.Stmt) string {
	words := append([]string{s.Name, "=", s.Op}, s.Args...)
	switch s.Op {
	case "param", "input", "const", "loss":
		words = append([]string{s.Op, s.Name}, s.Args...)
	case "scale":
		words = append(words, s.K)
	case "power":
		words = append(words, strconv.Itoa(s.N))
	}
	for _, n := range s.Dims {
		words = append(words, strconv.Itoa(n))
	}
	if s.Op == "const" {
		words = append(append(words, "="), s.Data...)
	}
	return strings.Join(words, " ")
}

// P10.2, P10.3: texts that are read and built, with all errors among them.
func TestBuildTexts(t *testing.T) {
	s := &source{state: 5}
	found := map[api.Errno]int{}
	for range 5000 {
		var l []read.Stmt
		var names, lines []string
		for range 1 + s.below(30) {
			next := s.stmt(names)
			if _, at, e := buildByDocument(append(l, next)); e != api.OK && at == len(l) && s.below(25) > 0 {
				continue
			}
			l = append(l, next)
			lines = append(lines, lined(next))
			if next.Op != "loss" {
				names = append(names, next.Name)
			}
		}
		found[wantBuildAsDocument(t, stmts(t, strings.Join(lines, "\n")))]++
		wantBuildAsDocument(t, l)
	}
	for _, e := range []api.Errno{api.OK, api.ErrShape, api.ErrNone, api.ErrThere, api.ErrLoss} {
		if found[e] < 100 {
			t.Fatalf("of each kind: %v", found)
		}
	}
}

// P10.2, P10.3, P1: statements that no text tells.
func TestBuildAny(t *testing.T) {
	s := &source{state: 6}
	names := append([]string{"n0", "n1", "n2", "n3", "n0", "n1", "n2"}, noNames...)
	found := map[api.Errno]int{}
	for range 40000 {
		var l []read.Stmt
		if s.below(20) > 0 {
			l = []read.Stmt{{Name: "n0", Op: "param"}, {Name: "n1", Op: "input", Dims: s.shape(someShapes)}}
		}
		for range s.below(4) {
			n := s.node(0)
			for range s.below(5) / 3 {
				n = s.changed(n, 1)
			}
			next := read.Stmt{Name: "n" + strconv.Itoa(len(l)), Op: n.Op, Dims: n.Shape, K: n.K, N: n.N, Data: n.Data}
			if s.below(6) == 0 {
				next.Name = s.one(names)
			}
			count := rows[n.Op].parts
			if n.Op == "loss" {
				count = 1
			}
			if s.below(6) == 0 {
				count = s.below(4)
			}
			for range count {
				next.Args = append(next.Args, s.one(names[:4+s.below(len(names)-4)]))
			}
			l = append(l, next)
		}
		if s.below(2) == 0 {
			l = append(l, read.Stmt{Op: "loss", Args: []string{"n0"}})
		}
		found[wantBuildAsDocument(t, l)]++
	}
	for _, e := range []api.Errno{api.OK, api.ErrShape, api.ErrNone, api.ErrThere, api.ErrLoss} {
		if found[e] < 200 {
			t.Fatalf("of each kind: %v", found)
		}
	}
}

// P10.2, P10.3: by hand, statements with more or less than a row has.
func TestBuildMoreOrLess(t *testing.T) {
	w := read.Stmt{Name: "w", Op: "param"}
	v := read.Stmt{Name: "v", Op: "input", Dims: []int{2}}
	loss := read.Stmt{Op: "loss", Args: []string{"w"}}
	for _, c := range []struct {
		s read.Stmt
		e api.Errno
	}{
		{read.Stmt{}, api.ErrShape},
		{read.Stmt{Name: "y"}, api.ErrShape},
		{read.Stmt{Name: "y", Op: "what", Args: []string{"w"}}, api.ErrShape},
		{read.Stmt{Name: "y", Op: "add", Args: []string{"w"}}, api.ErrShape},
		{read.Stmt{Name: "y", Op: "add"}, api.ErrShape},
		{read.Stmt{Name: "y", Op: "relu"}, api.ErrShape},
		{read.Stmt{Name: "y", Op: "relu", Args: []string{"w", "w"}}, api.ErrShape},
		{read.Stmt{Name: "y", Op: "relu", Args: []string{"w", "z"}}, api.ErrNone},
		{read.Stmt{Name: "y", Op: "add", Args: []string{"w", "w", "w"}}, api.ErrShape},
		{read.Stmt{Name: "y", Op: "param", Args: []string{"w"}}, api.ErrShape},
		{read.Stmt{Name: "y", Op: "param", K: "1"}, api.ErrShape},
		{read.Stmt{Name: "y", Op: "param", N: 1}, api.ErrShape},
		{read.Stmt{Name: "y", Op: "param", Data: []string{"1"}}, api.ErrShape},
		{read.Stmt{Name: "2y", Op: "param"}, api.ErrShape},
		{read.Stmt{Name: "", Op: "input"}, api.ErrShape},
		{read.Stmt{Name: "y", Op: "const", Data: []string{"2/2"}}, api.ErrShape},
		{read.Stmt{Name: "y", Op: "const"}, api.ErrShape},
		{read.Stmt{Name: "y", Op: "power", Args: []string{"w"}, N: 7}, api.ErrShape},
		{read.Stmt{Name: "y", Op: "power", Args: []string{"w"}, N: -1}, api.ErrShape},
		{read.Stmt{Name: "y", Op: "scale", Args: []string{"w"}}, api.ErrShape},
		{read.Stmt{Name: "y", Op: "scale", Args: []string{"w"}, K: "1", N: 1}, api.ErrShape},
		{read.Stmt{Name: "y", Op: "spread", Args: []string{"w"}, Dims: []int{0}}, api.ErrShape},
		{read.Stmt{Op: "loss"}, api.ErrNone},
	} {
		wantFault(t, []read.Stmt{w, v, c.s, loss}, 2, c.e)
		wantBuildAsDocument(t, []read.Stmt{w, v, c.s, loss})
	}
	// Dims are n's own Shape, which is not asked for of these.
	wantBuilt(t, []read.Stmt{w, v, {Name: "y", Op: "relu", Args: []string{"v"}, Dims: []int{7}}, loss},
		api.Graph{Nodes: []api.Node{{Op: "param", Name: "w"}, {Op: "input", Name: "v", Shape: []int{2}}, {Op: "relu", A: 1, Shape: []int{2}}}})
}

// R1: what is built is new memory.
func TestBuildNewMemory(t *testing.T) {
	text := "const c 2 = 1 2\nparam w 2\nr = relu w\ns = reshape r 2\nl = sum s\nh = spread l 2\nloss l"
	l := stmts(t, text)
	g, _, e := graph.Build(l)
	if e != api.OK {
		t.Fatalf("Build: %d", e)
	}
	for i := range g.Nodes {
		for j := range g.Nodes[i].Shape {
			g.Nodes[i].Shape[j] = 10 + i
		}
		for j := range g.Nodes[i].Data {
			g.Nodes[i].Data[j] = "9"
		}
	}
	for i, n := range g.Nodes {
		if len(n.Shape) > 0 && n.Shape[0] != 10+i {
			t.Fatal("nodes share a shape")
		}
	}
	if !reflect.DeepEqual(l, stmts(t, text)) {
		t.Fatal("a graph shares lists with the statements")
	}
}
