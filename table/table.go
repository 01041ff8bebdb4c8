// Package table makes the tables of patterns, and reads and writes tables.
package table

import (
	"veil/api"
	"veil/pattern"
)

// Table is a table. States and classes are numbered from 0 on.
type Table struct {
	class   [256]int // of each byte its class
	classes int
	granted []bool // of each state whether its strings are granted
	next    []int  // of each state, for each class, the state it leads to
}

// OfPattern makes the table of a pattern, with the errors that P5 names.
func OfPattern(p string) (Table, api.Errno) {
	tree, e, _ := pattern.Read(p)
	if e != api.OK {
		return Table{}, e
	}
	a := pattern.Build(tree)
	g := pattern.Draw(&a)
	return ofGraph(&g)
}

// ofGraph makes the table of a pattern's graph; ErrBig, if it has more states
// or classes than may be.
//
// The graph's states stand in the order of their first strings, and its
// letters in that of their least bytes. The first state of a kind is the one
// with the first string, the first letter of a class the one with the least
// byte: so kinds and classes are numbered as the document asks.
func ofGraph(g *pattern.Graph) (Table, api.Errno) {
	f := fold(g)
	if len(f.heads) > api.MaxStates {
		return Table{}, api.ErrBig
	}
	classes, firsts := sortLetters(g, &f)
	if len(firsts) > api.MaxClasses {
		return Table{}, api.ErrBig
	}
	t := Table{classes: len(firsts)}
	for b := 0; b < len(t.class); b++ {
		t.class[b] = at(classes, g.Letter(byte(b)))
	}
	for k := 0; k < len(f.heads); k++ {
		t.granted = append(t.granted, g.Granted(f.heads[k]))
		for c := 0; c < len(firsts); c++ {
			t.next = append(t.next, f.next(g, k, firsts[c]))
		}
	}
	return t, api.OK
}

// States is the number of states.
func (t *Table) States() int { return len(t.granted) }

// Classes is the number of classes.
func (t *Table) Classes() int { return t.classes }

// Class is the class of a byte.
func (t *Table) Class(b byte) int { return t.class[b] }

// Granted tells whether the strings of a state are granted.
func (t *Table) Granted(state int) bool {
	return state >= 0 && state < len(t.granted) && t.granted[state]
}

// Next is the state to which a class leads from a state.
func (t *Table) Next(state, class int) int {
	if state < 0 || state >= len(t.granted) || class < 0 || class >= t.classes {
		return 0
	}
	return at(t.next, state*t.classes+class)
}

// Bytes gives the table as the bytes that the document names.
func (t *Table) Bytes() string {
	text := []byte{byte(len(t.granted)), byte(t.classes)}
	for b := 0; b < len(t.class); b++ {
		text = append(text, byte(t.class[b]))
	}
	for i := 0; i < len(t.granted); i++ {
		bit := byte(0)
		if t.granted[i] {
			bit = 1
		}
		text = append(text, bit)
	}
	for i := 0; i < len(t.next); i++ {
		text = append(text, byte(t.next[i]))
	}
	return string(text)
}
