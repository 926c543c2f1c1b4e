package rope

import (
	"strings"

	"gimlet/api"
	"gimlet/tally"
)

// node holds a piece; the tally is that of the piece and of all that hangs below it.
type node struct {
	tally.Tally
	text  string
	own   tally.Tally
	prio  uint32
	left  *node
	right *node
}

// leaf makes a piece. Each new text draws its own number, so that no priority comes from another rope's dice.
func (r *Rope) leaf(s string) *node {
	own := tally.Of(s)
	return &node{Tally: own, text: s, own: own, prio: r.dice.Next()}
}

// build makes the tree of a text: full pieces and, at the end, the rest.
func (r *Rope) build(s string) *node {
	var root *node
	for len(s) > 0 {
		k := min(len(s), api.Chunk)
		root = merge(root, r.leaf(s[:k]))
		s = s[k:]
	}
	return root
}

// glue merges two trees; the two pieces that meet become one if they are short.
func (r *Rope) glue(a *node, b *node) *node {
	if a == nil || b == nil {
		return merge(a, b)
	}
	x, y := a.last().text, b.first().text
	if len(x)+len(y) > api.Chunk {
		return merge(a, b)
	}
	a, _ = part(a, a.Bytes-len(x))
	_, b = part(b, len(y))
	return merge(merge(a, r.leaf(x+y)), b)
}

// divide divides a tree at an offset; a piece that lies across it is cut.
func (r *Rope) divide(n *node, at int) (*node, *node) {
	a, b := part(n, at)
	k := at - a.size()
	if k == 0 {
		return a, b
	}
	s := b.first().text
	_, b = part(b, len(s))
	return r.glue(a, r.leaf(s[:k])), r.glue(r.leaf(s[k:]), b)
}

// part divides a tree between two pieces: those that end at or before the offset go left.
func part(n *node, at int) (*node, *node) {
	if n == nil {
		return nil, nil
	}
	end := n.left.size() + len(n.text)
	if end <= at {
		a, b := part(n.right, at-end)
		n.right = a
		n.refresh()
		return n, b
	}
	a, b := part(n.left, at)
	n.left = b
	n.refresh()
	return a, n
}

// merge puts one tree behind another.
func merge(a *node, b *node) *node {
	if a == nil {
		return b
	}
	if b == nil {
		return a
	}
	if a.prio >= b.prio {
		a.right = merge(a.right, b)
		a.refresh()
		return a
	}
	b.left = merge(a, b.left)
	b.refresh()
	return b
}

func (n *node) refresh() {
	n.Tally = tally.Fold(n.left.all(), n.own, n.right.all())
}

func (n *node) all() tally.Tally {
	if n == nil {
		return tally.Tally{}
	}
	return n.Tally
}

func (n *node) size() int {
	if n == nil {
		return 0
	}
	return n.Bytes
}

func (n *node) first() *node {
	for n.left != nil {
		n = n.left
	}
	return n
}

func (n *node) last() *node {
	for n.right != nil {
		n = n.right
	}
	return n
}

// write writes the bytes between two offsets; what of them lies outside of the tree is left out.
func (n *node) write(b *strings.Builder, from int, to int) {
	if n == nil || from >= to {
		return
	}
	start := n.left.size()
	end := start + len(n.text)
	if from < start {
		n.left.write(b, from, min(to, start))
	}
	if from < end && to > start {
		b.WriteString(n.text[max(from, start)-start : min(to, end)-start])
	}
	if to > end {
		n.right.write(b, max(from-end, 0), to-end)
	}
}

func (n *node) count(at int) tally.Tally {
	if n == nil {
		return tally.Tally{}
	}
	start := n.left.size()
	end := start + len(n.text)
	switch {
	case at <= start:
		return n.left.count(at)
	case at < end:
		return n.left.all().Plus(tally.Of(n.text[:at-start]))
	}
	return tally.Fold(n.left.all(), n.own, n.right.count(at-end))
}

func (n *node) upto(way int, most int) int {
	if n == nil {
		return 0
	}
	if n.By(way) <= most {
		return n.Bytes
	}
	rest := most - n.left.all().By(way)
	if rest < 0 {
		return n.left.upto(way, most)
	}
	if rest < n.own.By(way) {
		return n.left.size() + tally.Upto(n.text, way, rest)
	}
	return n.left.size() + len(n.text) + n.right.upto(way, rest-n.own.By(way))
}

func (n *node) pieces(to []Piece, depth int) []Piece {
	if n == nil {
		return to
	}
	to = n.left.pieces(to, depth+1)
	to = append(to, Piece{Text: n.text, Prio: n.prio, Depth: depth})
	return n.right.pieces(to, depth+1)
}
