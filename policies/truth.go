package policies

// truthReader goes through a formula and finds whether it is true.
type truthReader struct {
	text   string
	at     int
	truths []bool // of each letter whether it is true
}

// isTrue tells whether a formula is true, if its letters are.
func isTrue(formula string, truths []bool) bool {
	r := truthReader{text: formula, truths: truths}
	return r.formula()
}

// formula goes past one formula. It goes past a byte at least, unless the text
// is at its end: so it ends at texts that are no formulas too.
func (r *truthReader) formula() bool {
	b := r.take()
	switch {
	case b == '!':
		inner := r.formula()
		return !inner
	case b >= '0' && b <= '9':
		return r.several() >= b-'0'
	}
	letter := b - 'a'
	return letter >= 0 && letter < len(r.truths) && r.truths[letter]
}

// several goes past the formulas in brackets, and counts the true ones.
func (r *truthReader) several() int {
	r.take()
	count := 0
	for r.at < len(r.text) && r.text[r.at] != ')' {
		inner := r.formula()
		if inner {
			count++
		}
	}
	r.take()
	return count
}

// take goes past a byte; it gives 0 at the end of the text.
func (r *truthReader) take() int {
	if r.at >= len(r.text) {
		return 0
	}
	b := int(r.text[r.at])
	r.at++
	return b
}
