package policies

import (
	"veil/api"
	"veil/table"
)

// Compile makes the image of a policy for secrets of at most so many bytes.
// Its number is what P7 asks: the number of the rule that has the error, or
// the place of the error in the formula.
func Compile(policy string, most int) (Image, api.Errno, int) {
	if len(policy) > api.MaxPolicy {
		return Image{}, api.ErrLong, 0
	}
	if most < 0 || most > api.MaxSecret {
		return Image{}, api.ErrArg, 0
	}
	rules, rest := splitLines(policy)
	if len(rules) < 1 || len(rules) > api.MaxRules {
		return Image{}, api.ErrPolicy, 0
	}
	m := Image{most: most, formula: rest}
	for i := 0; i < len(rules); i++ {
		t, e := table.OfPattern(rules[i])
		if e != api.OK {
			return Image{}, e, i
		}
		m.tables = append(m.tables, t)
	}
	e, place := checkFormula(rest, len(rules))
	if e != api.OK {
		return Image{}, e, place
	}
	return m, api.OK, 0
}

// splitLines gives the lines of a text without their newlines, and what stands
// behind the last newline.
func splitLines(text string) ([]string, string) {
	lines := []string{}
	begin := 0
	for i := 0; i < len(text); i++ {
		if text[i] == '\n' {
			lines = append(lines, text[begin:i])
			begin = i + 1
		}
	}
	return lines, text[begin:]
}
