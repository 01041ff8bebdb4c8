// Package policies reads policies and formulas, and reads and writes images.
package policies

import (
	"veil/api"
	"veil/table"
)

// Image is an image. Its formula is over as many rules as it has tables.
type Image struct {
	most    int // bytes that a secret may have
	formula string
	tables  []table.Table
}

// mark is what every image begins with.
const mark = "VP"

// headSize is the number of bytes before the formula: the mark and three
// numbers.
const headSize = len(mark) + 3

// Open reads an image; ErrImage, if the text is none.
func Open(text string) (Image, api.Errno) {
	if len(text) < headSize || text[:len(mark)] != mark {
		return Image{}, api.ErrImage
	}
	most := int(text[2])
	rules := int(text[3])
	end := headSize + int(text[4])
	if most > api.MaxSecret || rules < 1 || rules > api.MaxRules || end > len(text) {
		return Image{}, api.ErrImage
	}
	m := Image{most: most, formula: text[headSize:end]}
	e, _ := checkFormula(m.formula, rules)
	if e != api.OK {
		return Image{}, api.ErrImage
	}
	if !m.readTables(text[end:], rules) {
		return Image{}, api.ErrImage
	}
	return m, api.OK
}

// readTables reads so many tables, behind which nothing may stand.
func (m *Image) readTables(text string, tables int) bool {
	for i := 0; i < tables; i++ {
		t, size := table.Read(text)
		if size < 1 || size > len(text) {
			return false
		}
		m.tables = append(m.tables, t)
		text = text[size:]
	}
	return text == ""
}

// Most is the most bytes that a secret may have.
func (m *Image) Most() int { return m.most }

// Rules is the number of rules, which is that of the tables.
func (m *Image) Rules() int { return len(m.tables) }

// Table is the table of a rule.
func (m *Image) Table(rule int) table.Table {
	if rule < 0 || rule >= len(m.tables) {
		return table.Table{}
	}
	return m.tables[rule]
}

// Grants tells whether a secret is granted of which each rule is true or not.
func (m *Image) Grants(truths []bool) bool { return isTrue(m.formula, truths) }

// Bytes gives the image as the bytes that the document names.
func (m *Image) Bytes() string {
	head := []byte{byte(m.most), byte(len(m.tables)), byte(len(m.formula))}
	text := mark + string(head) + m.formula
	for i := 0; i < len(m.tables); i++ {
		t := m.tables[i]
		text += t.Bytes()
	}
	return text
}
