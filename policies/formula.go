package policies

import "veil/api"

// What is due next in a formula.
const (
	formulaDue = 0 // a formula
	bracketDue = 1 // the `(` behind a digit
	nothingDue = 2 // nothing: a formula has ended
)

// formulaReader goes through a text byte by byte. What it has read is always
// the beginning of some formula: so the place of an error is where it stops.
type formulaReader struct {
	rules int // how many letters there are
	open  int // how many `(` wait for their `)`
	due   int
}

// checkFormula tells whether a text is a formula over so many rules. Its
// number is what P7 asks: the place of the error, or 0, if there is none.
func checkFormula(text string, rules int) (api.Errno, int) {
	if len(text) > api.MaxFormula {
		return api.ErrForm, api.MaxFormula
	}
	r := formulaReader{rules: rules, due: formulaDue}
	for i := 0; i < len(text); i++ {
		if !r.take(int(text[i])) {
			return api.ErrForm, i
		}
	}
	if r.open > 0 || r.due != nothingDue {
		return api.ErrForm, len(text)
	}
	return api.OK, 0
}

// take goes past the byte b, if it can stand there.
func (r *formulaReader) take(b int) bool {
	switch r.due {
	case formulaDue:
		return r.begin(b)
	case bracketDue:
		if b != '(' {
			return false
		}
		r.open++
		r.due = formulaDue
		return true
	}
	if r.open == 0 {
		return false
	}
	if b == ')' {
		r.open--
		return true
	}
	return r.begin(b)
}

// begin goes past the first byte of a formula.
func (r *formulaReader) begin(b int) bool {
	switch {
	case b >= 'a' && b < 'a'+r.rules:
		r.due = nothingDue
	case b == '!':
		r.due = formulaDue
	case b >= '0' && b <= '9':
		r.due = bracketDue
	default:
		return false
	}
	return true
}
