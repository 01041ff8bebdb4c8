// Package pattern reads patterns, weighs them and tells which strings match.
package pattern

// The kinds of nodes.
const (
	empty  = 0 // an empty branch
	one    = 1 // one byte of a set
	join   = 2 // left, and right behind it
	either = 3 // left or right
	star   = 4 // left, any number of times
	plus   = 5 // left, any number of times from one on
	maybe  = 6 // left, once or not at all
	times  = 7 // left, low to high times
)

// byteSet tells of each byte whether it is in the set.
type byteSet [256]bool

// node is a part of a pattern. The parts that it is made of have lesser
// numbers than it has: so every walk down a tree ends, and one walk up the
// list of nodes meets each after its parts.
type node struct {
	kind, left, right int
	low, high         int // of times
	set               int // of one: the number of its set
}

// Tree is a pattern that was read. The last node is the whole pattern.
type Tree struct {
	nodes []node
	sets  []byteSet
}
