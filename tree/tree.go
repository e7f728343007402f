// Package tree walks through nodes that have further nodes of the same type. The layers of expressions and of programs share it.
package tree

import (
	"iter"

	"pneumatic/api"
)

// Preorder yields a node, and then all nodes of those that it has, one after the other. Each one is behind its level: 1 for the first one, 2 for those that it has, and so on.
func Preorder[T any](root T, nodesOf func(T) []T) iter.Seq2[int, T] {
	return func(yield func(int, T) bool) {
		visit(root, 1, nodesOf, yield)
	}
}

// visit yields the nodes from one at a level on, and reports whether more of them are wanted.
func visit[T any](n T, level int, nodesOf func(T) []T, yield func(int, T) bool) bool {
	if !yield(level, n) {
		return false
	}
	for _, inner := range nodesOf(n) {
		if !visit(inner, level+1, nodesOf, yield) {
			return false
		}
	}
	return true
}

// Size returns how many nodes there are, and their greatest level; ErrMany for more than MaxNodes nodes, or a level greater than MaxDepth.
func Size[T any](root T, nodesOf func(T) []T) (nodes, depth int, e api.Errno) {
	for level := range Preorder(root, nodesOf) {
		nodes++
		depth = max(depth, level)
		// To stop here also ends the walk through a node that contains itself.
		if nodes > api.MaxNodes || depth > api.MaxDepth {
			return 0, 0, api.ErrMany
		}
	}
	return nodes, depth, api.OK
}
