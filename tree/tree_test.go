package tree_test

import (
	"slices"
	"strings"
	"testing"

	"pneumatic/api"
	"pneumatic/tree"
)

// node is a name with further nodes.
type node struct {
	name  string
	nodes []node
}

func nodesOf(n node) []node { return n.nodes }

func of(name string, nodes ...node) node { return node{name, nodes} }

// deep returns a node with so many levels.
func deep(levels int) node {
	if levels == 1 {
		return of("x")
	}
	return of("x", deep(levels-1))
}

func TestPreorder(t *testing.T) {
	root := of("a", of("b", of("c"), of("d", of("e"))), of("f"), of("g", of("h")))
	var names []string
	var levels []int
	for level, n := range tree.Preorder(root, nodesOf) {
		names = append(names, n.name)
		levels = append(levels, level)
	}
	if s := strings.Join(names, ""); s != "abcdefgh" {
		t.Errorf("nodes %s", s)
	}
	if !slices.Equal(levels, []int{1, 2, 3, 3, 4, 2, 2, 3}) {
		t.Errorf("levels %v", levels)
	}
	for last := range names {
		// The walk may end at each node.
		var seen []string
		for _, n := range tree.Preorder(root, nodesOf) {
			seen = append(seen, n.name)
			if len(seen) > last {
				break
			}
		}
		if !slices.Equal(seen, names[:last+1]) {
			t.Errorf("up to %d: %v", last, seen)
		}
	}
}

func TestSize(t *testing.T) {
	cyclic := of("x", of("y"))
	cyclic.nodes[0] = cyclic
	wide := func(n int) node { return of("x", make([]node, n)...) }
	for _, x := range []struct {
		n            node
		nodes, depth int
		e            api.Errno
	}{
		{of("x"), 1, 1, api.OK}, {of("x", of("y"), of("z", of("u"))), 4, 3, api.OK}, {of("x", of("z", of("u")), of("y")), 4, 3, api.OK},
		{deep(16), 16, 16, api.OK}, {deep(17), 0, 0, api.ErrMany}, {of("x", of("y"), deep(15)), 17, 16, api.OK}, {of("x", of("y"), deep(16)), 0, 0, api.ErrMany},
		{wide(255), 256, 2, api.OK}, {wide(256), 0, 0, api.ErrMany}, {wide(1 << 20), 0, 0, api.ErrMany}, {of("x", wide(127), wide(126)), 256, 3, api.OK}, {of("x", wide(127), wide(127)), 0, 0, api.ErrMany},
		{cyclic, 0, 0, api.ErrMany},
	} {
		nodes, depth, e := tree.Size(x.n, nodesOf)
		if nodes != x.nodes || depth != x.depth || e != x.e {
			t.Errorf("%d %d %d instead of %d %d %d", nodes, depth, e, x.nodes, x.depth, x.e)
		}
	}
}
