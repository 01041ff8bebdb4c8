package table

import "veil/api"

// headSize is the number of bytes before those that tell of the states: two
// numbers, and the class of each byte.
const headSize = 2 + 256

// Read reads the table that a text begins with, and gives the number of its
// bytes; 0, if the text begins with none. How long a table is stands in its
// first two bytes: so a text begins with one table at most.
func Read(text string) (Table, int) {
	if len(text) < headSize {
		return Table{}, 0
	}
	states := int(text[0])
	classes := int(text[1])
	if states < 1 || states > api.MaxStates || classes < 1 || classes > api.MaxClasses {
		return Table{}, 0
	}
	size := headSize + states + states*classes
	if len(text) < size {
		return Table{}, 0
	}
	class := text[2:headSize]
	granted := text[headSize : headSize+states]
	next := text[headSize+states : size]
	if !allBelow(class, classes) || !allBelow(granted, 2) || !allBelow(next, states) {
		return Table{}, 0
	}
	return parsed(classes, class, granted, next), size
}

// allBelow tells whether every byte of a text is below the bound.
func allBelow(text string, bound int) bool {
	for i := 0; i < len(text); i++ {
		if int(text[i]) >= bound {
			return false
		}
	}
	return true
}

// parsed gives the table of the bytes that were found to be right.
func parsed(classes int, class, granted, next string) Table {
	t := Table{classes: classes}
	for b := 0; b < len(t.class) && b < len(class); b++ {
		t.class[b] = int(class[b])
	}
	for i := 0; i < len(granted); i++ {
		t.granted = append(t.granted, granted[i] == 1)
	}
	for i := 0; i < len(next); i++ {
		t.next = append(t.next, int(next[i]))
	}
	return t
}
