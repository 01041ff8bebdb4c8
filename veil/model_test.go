package veil_test

import (
	"math/rand"
	"strings"
)

// A model of patterns, against which the calls are held. It is slow, and it
// follows the document's words: a text is tried in every way to be cut.

type model struct {
	kind      string // "empty", "byte", "or", "then", "suffix"
	left      *model
	right     *model
	suffix    string
	low, high int
	set       [256]bool
	weight    int
	found     map[string]bool // what matches has answered
}

type cutKey struct {
	what string
	text string
}

// models keeps what was found for a text, none too.
type models map[cutKey]*model

func (k models) keep(what, text string, find func(string) *model) *model {
	key := cutKey{what, text}
	m, known := k[key]
	if !known {
		m = find(text)
		k[key] = m
	}
	return m
}

func (k models) pattern(text string) *model { return k.keep("pattern", text, k.findPattern) }
func (k models) branch(text string) *model  { return k.keep("branch", text, k.findBranch) }
func (k models) piece(text string) *model   { return k.keep("piece", text, k.findPiece) }

func (k models) findPattern(text string) *model {
	if m := k.branch(text); m != nil {
		return m
	}
	for i := range len(text) {
		if text[i] != '|' {
			continue
		}
		left, right := k.branch(text[:i]), k.pattern(text[i+1:])
		if left != nil && right != nil {
			return &model{kind: "or", left: left, right: right, weight: left.weight + right.weight}
		}
	}
	return nil
}

func (k models) findBranch(text string) *model {
	if text == "" {
		return &model{kind: "empty", weight: 1}
	}
	if m := k.piece(text); m != nil {
		return m
	}
	for i := 1; i < len(text); i++ {
		left, right := k.piece(text[:i]), k.branch(text[i:])
		if left != nil && right != nil {
			return &model{kind: "then", left: left, right: right, weight: left.weight + right.weight}
		}
	}
	return nil
}

func isDigit(b byte) bool { return strings.IndexByte("0123456789", b) >= 0 }

func (k models) findPiece(text string) *model {
	if m := k.atom(text); m != nil {
		return m
	}
	for i := 1; i < len(text); i++ {
		tail := text[i:]
		m := model{kind: "suffix", suffix: tail[:1]}
		if tail != "*" && tail != "+" && tail != "?" {
			if len(tail) != 5 || tail[0] != '{' || !isDigit(tail[1]) || tail[2] != ',' || !isDigit(tail[3]) || tail[4] != '}' {
				continue
			}
			m.low, m.high = int(tail[1]-'0'), int(tail[3]-'0')
		}
		m.left = k.piece(text[:i])
		if m.left == nil {
			continue
		}
		m.weight = m.left.weight
		if m.suffix == "{" {
			m.weight = max(1, m.weight*m.high)
		}
		return &m
	}
	return nil
}

func (k models) atom(text string) *model {
	m := model{kind: "byte", weight: 1}
	end := len(text) - 1
	switch {
	case text == "":
		return nil
	case text == ".":
		for b := range 256 {
			m.set[b] = true
		}
		return &m
	case text[0] == '(' && text[end] == ')':
		if end == 0 {
			return nil
		}
		return k.pattern(text[1:end])
	case text[0] == '[' && text[end] == ']':
		return setModel(text[1:end])
	case len(text) == 1 && text[0] >= 32 && text[0] <= 126 && strings.IndexByte(`|*+?{}()[].\`, text[0]) < 0:
		m.set[text[0]] = true
		return &m
	}
	b := escaped(text)
	if b < 0 {
		return nil
	}
	m.set[b] = true
	return &m
}

func escaped(text string) int {
	if len(text) == 2 && text[0] == '\\' && strings.IndexByte(`|*+?{}()[].\-^`, text[1]) >= 0 {
		return int(text[1])
	}
	if len(text) != 3 || text[0] != '\\' {
		return -1
	}
	const digits = "0123456789abcdef"
	high, low := strings.IndexByte(digits, text[1]), strings.IndexByte(digits, text[2])
	if high < 0 || low < 0 {
		return -1
	}
	return 16*high + low
}

func setByte(text string) int {
	if len(text) == 1 && text[0] >= 32 && text[0] <= 126 && strings.IndexByte(`[]\-^`, text[0]) < 0 {
		return int(text[0])
	}
	return escaped(text)
}

func setModel(body string) *model {
	m := model{kind: "byte", weight: 1}
	not := strings.HasPrefix(body, "^")
	if not {
		body = body[1:]
	}
	if body == "" || !items(body, &m.set) {
		return nil
	}
	for b := range 256 {
		m.set[b] = m.set[b] != not
	}
	return &m
}

func items(body string, set *[256]bool) bool {
	if body == "" {
		return true
	}
	for i := 1; i <= min(7, len(body)); i++ {
		low, high := setByte(body[:i]), setByte(body[:i])
		for j := 1; j < i-1; j++ {
			if body[j] == '-' && setByte(body[:j]) >= 0 && setByte(body[j+1:i]) >= 0 {
				low, high = setByte(body[:j]), setByte(body[j+1:i])
			}
		}
		if low >= 0 && items(body[i:], set) {
			for b := low; b <= high; b++ {
				set[b] = true
			}
			return true
		}
	}
	return false
}

// begins tells whether some pattern begins with the text: whether it can be
// made one by ending what is open.
func (k models) begins(text string) bool {
	for _, tail := range []string{"", "0", "00", "0,0}", ",0}", "0}", "}", "a]", "]", "0]", "00]"} {
		closed := text + tail
		for range strings.Count(text, "(") + 1 {
			if k.pattern(closed) != nil {
				return true
			}
			closed += ")"
		}
	}
	return false
}

// place goes upwards: of a text that begins a pattern every beginning does.
func (k models) place(text string) int {
	place := 0
	for place < len(text) && k.begins(text[:place+1]) {
		place++
	}
	return place
}

func (m *model) matches(s string) bool {
	v, known := m.found[s]
	if !known {
		v = m.findMatch(s)
		if m.found == nil {
			m.found = map[string]bool{}
		}
		m.found[s] = v
	}
	return v
}

// findMatch cuts the string in every way.
func (m *model) findMatch(s string) bool {
	switch m.kind {
	case "empty":
		return s == ""
	case "byte":
		return len(s) == 1 && m.set[s[0]]
	case "or":
		return m.left.matches(s) || m.right.matches(s)
	case "then":
		for i := range len(s) + 1 {
			if m.left.matches(s[:i]) && m.right.matches(s[i:]) {
				return true
			}
		}
		return false
	}
	switch m.suffix {
	case "*":
		// More parts than bytes would have empty ones among them.
		return s == "" || m.left.matchesTimes(s, 1, len(s))
	case "+":
		return m.left.matchesTimes(s, 1, max(1, len(s)))
	case "?":
		return s == "" || m.left.matches(s)
	}
	return m.left.matchesTimes(s, m.low, m.high)
}

func (m *model) matchesTimes(s string, low, high int) bool {
	for k := low; k <= high; k++ {
		if m.matchesJust(s, k) {
			return true
		}
	}
	return false
}

func (m *model) matchesJust(s string, k int) bool {
	if k == 0 {
		return s == ""
	}
	for i := range len(s) + 1 {
		if m.matchesJust(s[i:], k-1) && m.matches(s[:i]) {
			return true
		}
	}
	return false
}

// anyPattern makes some pattern of about the given size.
func anyPattern(r *rand.Rand, size int) string {
	if size <= 1 {
		return anyOf(r, "a", "b", "c", ".", "[ab]", "[^a]", "[a-b]", "[^b-c]", "[b-a]", `\61`, `[\61-\62]`, "()", "(a|)", "", "-", "^")
	}
	part := r.Intn(size-1) + 1
	switch r.Intn(6) {
	case 0:
		return anyPattern(r, part) + "|" + anyPattern(r, size-part)
	case 1, 2:
		return "(" + anyPattern(r, part) + ")(" + anyPattern(r, size-part) + ")"
	case 3:
		return anyPattern(r, part) + anyPattern(r, size-part)
	case 4:
		return "(" + anyPattern(r, size-1) + ")" + anyOf(r, "*", "+", "?", "**", "+?", "?+")
	}
	return "(" + anyPattern(r, size-1) + ")" + anyOf(r, "{0,0}", "{0,1}", "{1,1}", "{1,2}", "{2,2}", "{0,2}", "{2,3}", "{1,0}", "{3,2}", "{2,2}{0,1}", "{1,2}*", "*{2,2}")
}

func anyOf(r *rand.Rand, texts ...string) string { return texts[r.Intn(len(texts))] }

// spoiled changes, takes out or puts in a byte.
func spoiled(r *rand.Rand, text string) string {
	b := anyOf(r, "a", "0", ",", "-", "^", "|", "*", "+", "?", "{", "}", "(", ")", "[", "]", ".", `\`, "\n", "\xff")
	i := r.Intn(len(text) + 1)
	if i == len(text) {
		return text + b
	}
	switch r.Intn(3) {
	case 0:
		return text[:i] + text[i+1:]
	case 1:
		return text[:i] + b + text[i+1:]
	}
	return text[:i] + b + text[i:]
}

// allStrings gives every string over the bytes up to the length.
func allStrings(bytes string, length int) []string {
	all := []string{""}
	for i := 0; i < len(all); i++ {
		if len(all[i]) == length {
			break
		}
		for j := range len(bytes) {
			all = append(all, all[i]+bytes[j:j+1])
		}
	}
	return all
}
