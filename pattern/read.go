package pattern

import "veil/api"

// Read reads a pattern. Its number is what P3 asks: the place of the error,
// if the text is no pattern, and the weight, if it is one that may be.
func Read(text string) (Tree, api.Errno, int) {
	if len(text) > api.MaxPattern {
		return Tree{}, api.ErrLong, 0
	}
	r := reader{text: text}
	r.readPattern()
	if r.bad || r.at < len(text) {
		return Tree{}, api.ErrPattern, r.at
	}
	w := weigh(r.tree)
	if w > api.MaxWeight {
		return Tree{}, api.ErrBig, 0
	}
	return r.tree, api.OK, w
}

// none is what a reader sees where there is no byte to read.
const none = -1

// reader goes through a text byte by byte and never back. What it has read is
// always the beginning of some pattern: so the place of an error is where it
// stops.
type reader struct {
	text string
	at   int  // the place of the next byte
	bad  bool // what stands at this place cannot stand there
	tree Tree
}

// peek is the next byte. A bad reader sees none, so that it reads no further.
func (r *reader) peek() int {
	if r.bad || r.at < 0 || r.at >= len(r.text) {
		return none
	}
	return int(r.text[r.at])
}

// take goes past the byte b, if it is the next.
func (r *reader) take(b int) bool {
	if r.peek() != b {
		return false
	}
	r.at++
	return true
}

// expect goes past the byte b, which must be the next.
func (r *reader) expect(b int) {
	if !r.take(b) {
		r.bad = true
	}
}

// add lays a node behind the others and gives its number.
func (r *reader) add(n node) int {
	r.tree.nodes = append(r.tree.nodes, n)
	return len(r.tree.nodes) - 1
}

func (r *reader) addSet(set byteSet) int {
	r.tree.sets = append(r.tree.sets, set)
	return r.add(node{kind: one, set: len(r.tree.sets) - 1})
}

func (r *reader) readPattern() int {
	whole := r.readBranch()
	for r.take('|') {
		right := r.readBranch()
		whole = r.add(node{kind: either, left: whole, right: right})
	}
	return whole
}

func (r *reader) readBranch() int {
	if !r.atAtom() {
		return r.add(node{kind: empty})
	}
	whole := r.readPiece()
	for r.atAtom() {
		right := r.readPiece()
		whole = r.add(node{kind: join, left: whole, right: right})
	}
	return whole
}

func (r *reader) atAtom() bool {
	b := r.peek()
	return b == '.' || b == '(' || b == '[' || b == '\\' || isPlain(b)
}

func (r *reader) readPiece() int {
	whole := r.readAtom()
	for r.atSuffix() {
		whole = r.readSuffix(whole)
	}
	return whole
}

func (r *reader) atSuffix() bool {
	b := r.peek()
	return b == '*' || b == '+' || b == '?' || b == '{'
}

// readSuffix reads the suffix that is next and puts it on the node inner.
func (r *reader) readSuffix(inner int) int {
	if r.take('*') {
		return r.add(node{kind: star, left: inner})
	}
	if r.take('+') {
		return r.add(node{kind: plus, left: inner})
	}
	if r.take('?') {
		return r.add(node{kind: maybe, left: inner})
	}
	r.expect('{')
	low := r.readDigit(10)
	r.expect(',')
	high := r.readDigit(10)
	r.expect('}')
	return r.add(node{kind: times, left: inner, low: low, high: high})
}

func (r *reader) readDigit(base int) int {
	b := r.peek()
	d := digit(b)
	if d < 0 || d >= base {
		r.bad = true
		return 0
	}
	r.at++
	return d
}

// readAtom reads the atom that is next.
func (r *reader) readAtom() int {
	if r.take('(') {
		inner := r.readPattern()
		r.expect(')')
		return inner
	}
	if r.take('[') {
		set := r.readSet()
		return r.addSet(set)
	}
	if r.take('.') {
		return r.addSet(complement(byteSet{}))
	}
	b := r.readByte()
	return r.addSet(addRange(byteSet{}, b, b))
}

func (r *reader) readByte() int {
	b := r.peek()
	if b == '\\' {
		return r.readEscape()
	}
	if !isPlain(b) {
		r.bad = true
		return 0
	}
	r.at++
	return b
}

// readSet reads a set from behind its `[` on.
func (r *reader) readSet() byteSet {
	not := r.take('^')
	set := r.readItem(byteSet{})
	for !r.bad && r.peek() != ']' {
		set = r.readItem(set)
	}
	r.expect(']')
	if not {
		return complement(set)
	}
	return set
}

// readItem reads an item and gives the set with its bytes in it too.
func (r *reader) readItem(set byteSet) byteSet {
	low := r.readSetByte()
	high := low
	if r.take('-') {
		high = r.readSetByte()
	}
	return addRange(set, low, high)
}

func (r *reader) readSetByte() int {
	b := r.peek()
	if b == '\\' {
		return r.readEscape()
	}
	if !isPlainInSet(b) {
		r.bad = true
		return 0
	}
	r.at++
	return b
}

func (r *reader) readEscape() int {
	r.expect('\\')
	b := r.peek()
	if mayBeEscaped(b) {
		r.at++
		return b
	}
	high := r.readDigit(16)
	low := r.readDigit(16)
	return 16*high + low
}
