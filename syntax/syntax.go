// Package syntax reads patterns: what they are made of, and how large they are.
package syntax

import "sift/api"

// Kind tells what a node of a pattern stands for.
type Kind int

const (
	Nothing Kind = 0 // a branch of no pieces
	Bytes   Kind = 1 // one byte out of some
	Begin   Kind = 2 // ^
	End     Kind = 3 // $
	Both    Kind = 4 // what is left, and what is right behind it
	Either  Kind = 5 // what is left, or what is right
	Repeat  Kind = 6 // what is left, from Least to Most times
)

// Endless is the Most of a repeat without an upper bound.
const Endless = -1

// Item is the bytes from Low to High, both with them.
type Item struct {
	Low  int
	High int
}

// Node is a part of a pattern. Left and Right are places in the list of the
// pattern's nodes, Items and Not are of Bytes alone.
type Node struct {
	Kind  Kind
	Items []Item
	Not   bool
	Left  int
	Right int
	Least int
	Most  int
	Size  int
}

// Pattern has its nodes in such an order that each stands behind those that it
// is made of: the last one is the whole pattern.
type Pattern struct {
	Nodes []Node
	Size  int
}

// Read reads a pattern that is to keep the limits of its length and its size.
func Read(text string) (Pattern, api.Errno) {
	if len(text) > api.MaxPattern {
		return Pattern{}, api.ErrSize
	}
	r := reader{text: text}
	top := r.pattern()
	if r.at < len(text) {
		r.fail()
	}
	if r.bad {
		return Pattern{}, api.ErrPattern
	}
	size := r.size(top)
	if size > api.MaxSize {
		return Pattern{}, api.ErrSize
	}
	return Pattern{Nodes: r.nodes, Size: size}, api.OK
}
