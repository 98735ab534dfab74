package tree

import (
	"iter"
	"slices"
	"strings"

	"accidence/api"
	"accidence/gram"
)

// all goes through all nodes, a node ahead of its kids, from the left to the right, and tells of each how many stand above one another, from the root down to it.
func (n *Node) all() iter.Seq2[*Node, int] {
	type place struct {
		node  *Node
		level int
	}
	return func(yield func(*Node, int) bool) {
		todo := []place{{n, 1}}
		for len(todo) > 0 {
			p := todo[len(todo)-1]
			todo = todo[:len(todo)-1]
			if p.node == nil {
				continue
			}
			if !yield(p.node, p.level) {
				return
			}
			for _, kid := range slices.Backward(p.node.Kids) {
				todo = append(todo, place{kid, p.level + 1})
			}
		}
	}
}

// Rules is the derivation of a tree.
func (n *Node) Rules() []int {
	var list []int
	for m := range n.all() {
		if gram.IsVar(m.Sym) {
			list = append(list, m.Rule)
		}
	}
	return list
}

// Yield is the word of a tree.
func (n *Node) Yield() []int {
	var word []int
	for m := range n.all() {
		if !gram.IsVar(m.Sym) {
			word = append(word, ^m.Sym)
		}
	}
	return word
}

// Size is how many nodes a tree has.
func (n *Node) Size() int {
	size := 0
	for range n.all() {
		size++
	}
	return size
}

// Height is how many nodes stand above one another at most.
func (n *Node) Height() int {
	height := 0
	for _, level := range n.all() {
		height = max(height, level)
	}
	return height
}

// areOf tells whether nodes are there, and of just these symbols.
func areOf(nodes []*Node, symbols []int) bool {
	return slices.EqualFunc(nodes, symbols, func(n *Node, s int) bool { return n != nil && n.Sym == s })
}

// Same tells whether two trees are the same.
func (n *Node) Same(o *Node) bool {
	if n == nil || o == nil {
		return n == o
	}
	return n.Sym == o.Sym && n.Rule == o.Rule && slices.EqualFunc(n.Kids, o.Kids, (*Node).Same)
}

// Text is a tree as text.
func (n *Node) Text(g api.Grammar) string {
	var b strings.Builder
	n.write(&b, g)
	return b.String()
}

// write puts a tree's text behind others.
func (n *Node) write(b *strings.Builder, g api.Grammar) {
	if n == nil {
		return
	}
	if !gram.IsVar(n.Sym) {
		b.WriteString(gram.Name(g, n.Sym))
		return
	}
	b.WriteString("(" + gram.Name(g, n.Sym))
	for _, kid := range n.Kids {
		b.WriteByte(' ')
		kid.write(b, g)
	}
	b.WriteByte(')')
}
