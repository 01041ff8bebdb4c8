package tuples

import "veil/table"

// letter is all bytes that are of the same classes, table by table. From every
// tuple they lead to the same one, so that the least of them can stand for all.
type letter struct {
	classes string // a byte for each table
	least   byte
}

// lettersOf gives the letters of some tables, by their least bytes.
func lettersOf(tables []table.Table) []letter {
	var letters []letter
	for b := 0; b < 256; b++ {
		classes := classesOf(tables, byte(b))
		if !isLetter(letters, classes) {
			letters = append(letters, letter{classes: classes, least: byte(b)})
		}
	}
	return letters
}

// classesOf gives the classes of a byte, table by table.
func classesOf(tables []table.Table, b byte) string {
	var classes []byte
	for i := 0; i < len(tables); i++ {
		class := tables[i].Class(b)
		classes = append(classes, byte(class))
	}
	return string(classes)
}

// isLetter tells whether there is a letter of these classes already.
func isLetter(letters []letter, classes string) bool {
	for i := 0; i < len(letters); i++ {
		if letters[i].classes == classes {
			return true
		}
	}
	return false
}
