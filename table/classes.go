package table

import (
	"veil/api"
	"veil/pattern"
)

// sortLetters gives of each letter its class, and of each class its first
// letter. It stops at more classes than may be.
func sortLetters(g *pattern.Graph, f *folded) ([]int, []int) {
	classes := []int{}
	firsts := []int{}
	for letter := 0; letter < g.Letters(); letter++ {
		c := 0
		for c < len(firsts) && !leadAlike(g, f, letter, firsts[c]) {
			c++
		}
		if c == len(firsts) {
			firsts = append(firsts, letter)
		}
		if len(firsts) > api.MaxClasses {
			return classes, firsts
		}
		classes = append(classes, c)
	}
	return classes, firsts
}

// leadAlike tells whether two letters lead from each kind to the same kind.
func leadAlike(g *pattern.Graph, f *folded, a, b int) bool {
	for kind := 0; kind < len(f.heads); kind++ {
		if f.next(g, kind, a) != f.next(g, kind, b) {
			return false
		}
	}
	return true
}
