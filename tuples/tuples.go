// Package tuples finds the tuples of tables, and by them the first string that
// an image grants, or on which two images part.
package tuples

import (
	"veil/api"
	"veil/table"
)

// tuple is what states some strings lead to, table by table.
type tuple struct {
	states string // a byte for each table
	first  string // the first of the strings
}

// all gives the tuples of some tables; ErrBig, if there are more than may be.
//
// They stand in the order of their first strings: these are met from the
// shortest on, and those of one length by their bytes, since the tuples before
// them and the letters are gone through in this order.
func all(tables []table.Table) ([]tuple, api.Errno) {
	letters := lettersOf(tables)
	found := []tuple{{states: string(make([]byte, len(tables)))}}
	for i := 0; i < len(found); i++ {
		for j := 0; j < len(letters); j++ {
			states := next(tables, found[i].states, letters[j].classes)
			if isFound(found, states) {
				continue
			}
			if len(found) == api.MaxTuples {
				return nil, api.ErrBig
			}
			first := found[i].first + string([]byte{letters[j].least})
			found = append(found, tuple{states: states, first: first})
		}
	}
	return found, api.OK
}

// next gives the states to which classes lead from states, table by table.
func next(tables []table.Table, states, classes string) string {
	var after []byte
	for i := 0; i < len(tables) && i < len(states) && i < len(classes); i++ {
		state := tables[i].Next(int(states[i]), int(classes[i]))
		after = append(after, byte(state))
	}
	return string(after)
}

// isFound tells whether there is a tuple of these states already.
func isFound(found []tuple, states string) bool {
	for i := 0; i < len(found); i++ {
		if found[i].states == states {
			return true
		}
	}
	return false
}
