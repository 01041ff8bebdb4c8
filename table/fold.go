package table

import (
	"veil/api"
	"veil/pattern"
)

// folded tells which states of a graph are alike. Each kind of alike states
// has the number of its first state among the first states of all kinds.
type folded struct {
	kinds []int // of each state its kind
	heads []int // of each kind its first state
}

// fold finds the alike states. It begins with one kind for all, and splits the
// kinds until no state differs from the others of its kind. Kinds only grow in
// number: so it stops as soon as there are more than may be, and each of the
// rounds before has more kinds than the one before it.
func fold(g *pattern.Graph) folded {
	f := folded{kinds: make([]int, g.States())}
	for round := 0; round <= api.MaxStates; round++ {
		finer := split(g, f.kinds)
		if len(finer.heads) == len(f.heads) {
			return finer
		}
		f = finer
		if len(f.heads) > api.MaxStates {
			return f
		}
	}
	return f
}

// split gives the kinds of the states that are of one kind, are granted both
// or neither, and whose letters lead to the same kinds. It stops at more kinds
// than may be.
func split(g *pattern.Graph, kinds []int) folded {
	f := folded{}
	for state := 0; state < len(kinds); state++ {
		k := 0
		for k < len(f.heads) && !same(g, kinds, state, f.heads[k]) {
			k++
		}
		if k == len(f.heads) {
			f.heads = append(f.heads, state)
		}
		if len(f.heads) > api.MaxStates {
			return f
		}
		f.kinds = append(f.kinds, k)
	}
	return f
}

func same(g *pattern.Graph, kinds []int, a, b int) bool {
	if at(kinds, a) != at(kinds, b) || g.Granted(a) != g.Granted(b) {
		return false
	}
	for letter := 0; letter < g.Letters(); letter++ {
		if at(kinds, g.Next(a, letter)) != at(kinds, g.Next(b, letter)) {
			return false
		}
	}
	return true
}

// next is the kind to which a letter leads from a kind.
func (f *folded) next(g *pattern.Graph, kind, letter int) int {
	head := at(f.heads, kind)
	return at(f.kinds, g.Next(head, letter))
}

func at(list []int, i int) int {
	if i < 0 || i >= len(list) {
		return 0
	}
	return list[i]
}
