package pattern

// isMark tells the bytes that have a meaning outside a set, and so do not
// stand for themselves there.
func isMark(b int) bool {
	switch b {
	case '|', '*', '+', '?', '{', '}', '(', ')', '[', ']', '.', '\\':
		return true
	}
	return false
}

func isPlain(b int) bool {
	return b >= 32 && b <= 126 && !isMark(b)
}

func isPlainInSet(b int) bool {
	switch b {
	case '[', ']', '\\', '-', '^':
		return false
	}
	return b >= 32 && b <= 126
}

func mayBeEscaped(b int) bool {
	return b == '-' || b == '^' || isMark(b)
}

// digit is the worth of a digit in base sixteen, or -1. Capital letters are
// no digits.
func digit(b int) int {
	if b >= '0' && b <= '9' {
		return b - '0'
	}
	if b >= 'a' && b <= 'f' {
		return b - 'a' + 10
	}
	return -1
}

// addRange gives the set with all bytes from low to high in it too; none, if
// low is above high.
func addRange(set byteSet, low, high int) byteSet {
	for b := 0; b < len(set); b++ {
		if low <= b && b <= high {
			set[b] = true
		}
	}
	return set
}

func complement(set byteSet) byteSet {
	for b := 0; b < len(set); b++ {
		set[b] = !set[b]
	}
	return set
}
