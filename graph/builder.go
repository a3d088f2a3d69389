package graph

import (
	"slices"

	"tapewright/api"
	"tapewright/read"
)

// noLoss is the loss's place as long as no statement has told it.
const noLoss = -1

// builder is what the statements taken so far come to: nodes, the place of each
// name's node, and that of the loss.
type builder struct {
	nodes  []api.Node
	places map[string]int
	loss   int
}

func (b *builder) take(s read.Stmt) api.Errno {
	if s.Op == "loss" {
		return b.end(s)
	}
	return b.add(s)
}

// add takes a statement that makes a node.
func (b *builder) add(s read.Stmt) api.Errno {
	if _, there := b.places[s.Name]; there {
		return api.ErrThere
	}
	args, ok := b.find(s.Args)
	if !ok {
		return api.ErrNone
	}
	if len(b.nodes) == api.MaxNodes {
		return api.ErrLong
	}
	n, ok := node(s, args)
	if !ok {
		return api.ErrShape
	}
	if n.Shape, ok = Infer(b.nodes, n); !ok {
		return api.ErrShape
	}
	n.Data = slices.Clone(n.Data)
	b.places[s.Name] = len(b.nodes)
	b.nodes = append(b.nodes, n)
	return api.OK
}

// end takes a statement that tells the loss.
func (b *builder) end(s read.Stmt) api.Errno {
	args, ok := b.find(s.Args)
	if !ok || len(args) == 0 {
		return api.ErrNone
	}
	if b.loss != noLoss {
		return api.ErrThere
	}
	if len(args) != 1 || len(b.nodes[args[0]].Shape) != 0 {
		return api.ErrLoss
	}
	b.loss = args[0]
	return api.OK
}

// find is the places of the names' nodes.
func (b *builder) find(names []string) ([]int, bool) {
	var list []int
	for _, name := range names {
		at, there := b.places[name]
		if !there {
			return nil, false
		}
		list = append(list, at)
	}
	return list, true
}

// node is what a statement tells of one. A statement may have names more or less
// than its operation takes, where it was not read: a node would not show that.
func node(s read.Stmt, args []int) (api.Node, bool) {
	if len(args) != parts(s.Op) {
		return api.Node{}, false
	}
	n := api.Node{Op: s.Op, Shape: s.Dims, K: s.K, N: s.N, Data: s.Data}
	if named(s.Op) {
		n.Name = s.Name
	}
	if len(args) > 0 {
		n.A = args[0]
	}
	if len(args) > 1 {
		n.B = args[1]
	}
	return n, true
}
