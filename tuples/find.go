package tuples

import (
	"veil/api"
	"veil/policies"
	"veil/table"
)

// Witness gives the first secret that an image grants, and true; or false, if
// there is none. ErrBig, if its tables have more tuples than may be.
func Witness(m *policies.Image) (string, bool, api.Errno) {
	tables := tablesOf(m)
	found, e := all(tables)
	if e != api.OK {
		return "", false, e
	}
	for i := 0; i < len(found) && len(found[i].first) <= m.Most(); i++ {
		if grants(m, found[i].states, 0) {
			return found[i].first, true, api.OK
		}
	}
	return "", false, api.OK
}

// Differ gives the first string of which one of two images' formulas is true
// and the other is not, and true; or false, if there is none. ErrBig, if the
// tables of both have more tuples than may be.
func Differ(x, y *policies.Image) (string, bool, api.Errno) {
	tables := tablesOf(x)
	others := tablesOf(y)
	tables = append(tables, others...)
	found, e := all(tables)
	if e != api.OK {
		return "", false, e
	}
	for i := 0; i < len(found); i++ {
		byX := grants(x, found[i].states, 0)
		byY := grants(y, found[i].states, x.Rules())
		if byX != byY {
			return found[i].first, true, api.OK
		}
	}
	return "", false, api.OK
}

// tablesOf gives the tables of an image, rule by rule.
func tablesOf(m *policies.Image) []table.Table {
	var tables []table.Table
	for i := 0; i < m.Rules(); i++ {
		tables = append(tables, m.Table(i))
	}
	return tables
}

// grants tells whether an image's formula is true of the strings that lead to
// these states, of which those of its own tables stand from a place on.
func grants(m *policies.Image, states string, from int) bool {
	var truths []bool
	for i := 0; i < m.Rules() && from+i < len(states); i++ {
		t := m.Table(i)
		truths = append(truths, t.Granted(int(states[from+i])))
	}
	return m.Grants(truths)
}
