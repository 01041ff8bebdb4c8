package veil_test

import (
	"math/rand"
	"strconv"
	"strings"

	"veil/api"
	"veil/veil"
)

// A model of formulas, policies and images. It is slow, and it follows the
// document's words: a text is tried in every way to be cut.

// formulas keeps what was found for a text.
type formulas struct {
	rules int
	one   map[string]bool // the text is a formula
	some  map[string]bool // the text is formulas, one or more
}

func formulasOver(rules int) formulas {
	return formulas{rules, map[string]bool{}, map[string]bool{}}
}

func (k formulas) formula(text string) bool {
	v, known := k.one[text]
	if !known {
		v = k.findFormula(text)
		k.one[text] = v
	}
	return v
}

func (k formulas) findFormula(text string) bool {
	end := len(text) - 1
	switch {
	case text == "":
		return false
	case len(text) == 1:
		return strings.Contains("abcd"[:k.rules], text)
	case text[0] == '!':
		return k.formula(text[1:])
	}
	return len(text) > 3 && isDigit(text[0]) && text[1] == '(' && text[end] == ')' && k.several(text[2:end])
}

func (k formulas) several(text string) bool {
	v, known := k.some[text]
	if !known {
		v = k.formula(text)
		for i := 1; i < len(text) && !v; i++ {
			v = k.formula(text[:i]) && k.several(text[i:])
		}
		k.some[text] = v
	}
	return v
}

// begins tells whether some formula begins with the text: whether it can be
// made one by ending what is open.
func (k formulas) begins(text string) bool {
	for _, tail := range []string{"", "a", "(a)"} {
		closed := text + tail
		for range strings.Count(text, "(") + 1 {
			if k.formula(closed) {
				return true
			}
			closed += ")"
		}
	}
	return false
}

// place goes upwards: of a text that begins a formula every beginning does.
func (k formulas) place(text string) int {
	place := 0
	for place < len(text) && k.begins(text[:place+1]) {
		place++
	}
	return place
}

// compiled is what Compile has to answer, by what Table answers.
func compiled(policy string, n int) (string, api.Errno, int) {
	lines := strings.Split(policy, "\n")
	rules, formula := lines[:len(lines)-1], lines[len(lines)-1]
	switch {
	case len(policy) > api.MaxPolicy:
		return "", api.ErrLong, 0
	case n < 0 || n > api.MaxSecret:
		return "", api.ErrArg, 0
	case len(rules) == 0 || len(rules) > api.MaxRules:
		return "", api.ErrPolicy, 0
	}
	image := "VP" + string([]byte{byte(n), byte(len(rules)), byte(len(formula))}) + formula
	for i, rule := range rules {
		table, e := veil.Table(rule)
		if e != api.OK {
			return "", e, i
		}
		image += table
	}
	if len(formula) > api.MaxFormula {
		return "", api.ErrForm, api.MaxFormula
	}
	known := formulasOver(len(rules))
	if !known.formula(formula) {
		return "", api.ErrForm, known.place(formula)
	}
	return image, api.OK, 0
}

func isTable(text string) bool {
	if len(text) < 258 {
		return false
	}
	states, classes := int(text[0]), int(text[1])
	if states < 1 || states > 24 || classes < 1 || classes > 24 || len(text) != 258+states+states*classes {
		return false
	}
	for i := 2; i < len(text); i++ {
		bound := states
		if i < 258 {
			bound = classes
		} else if i < 258+states {
			bound = 2
		}
		if int(text[i]) >= bound {
			return false
		}
	}
	return true
}

func areTables(text string, count int) bool {
	if count == 0 {
		return text == ""
	}
	for i := range len(text) + 1 {
		if isTable(text[:i]) && areTables(text[i:], count-1) {
			return true
		}
	}
	return false
}

func isImage(text string) bool {
	if len(text) < 5 || text[:2] != "VP" || text[2] > 16 || text[3] < 1 || text[3] > 4 || text[4] < 1 || text[4] > 40 {
		return false
	}
	rules, end := int(text[3]), 5+int(text[4])
	return len(text) >= end && formulasOver(rules).formula(text[5:end]) && areTables(text[end:], rules)
}

// anyFormula makes some formula of about the given size.
func anyFormula(r *rand.Rand, rules, size int) string {
	if size <= 1 {
		return "abcd"[:rules][r.Intn(rules):][:1]
	}
	if r.Intn(4) == 0 {
		return "!" + anyFormula(r, rules, size-1)
	}
	text := strconv.Itoa(r.Intn(10)) + "("
	for left := size; left > 0; {
		part := 1 + r.Intn(max(1, left-2))
		text += anyFormula(r, rules, part)
		left -= part + 1
	}
	return text + ")"
}

// spoiledFormula changes, takes out or puts in a byte.
func spoiledFormula(r *rand.Rand, text string) string {
	b := anyOf(r, "a", "b", "c", "d", "e", "A", "`", "0", "9", "/", ":", "!", "(", ")", " ", "\x00", "\xff")
	i := r.Intn(len(text) + 1)
	if i == len(text) {
		return text + b
	}
	return text[:i] + anyOf(r, "", b, b+text[i:i+1]) + text[i+1:]
}

// anyPolicy makes some policy; now and then one with an error.
func anyPolicy(r *rand.Rand) string {
	policy := ""
	rules := 1 + r.Intn(4)
	if r.Intn(12) == 0 {
		rules = r.Intn(7)
	}
	for range rules {
		rule := anyPattern(r, 1+r.Intn(5))
		if r.Intn(12) == 0 {
			rule = anyOf(r, spoiled(r, rule), ".*a.{9,9}", strings.Repeat("a", 13), strings.Repeat("a", 61), "*")
		}
		policy += rule + "\n"
	}
	formula := anyFormula(r, max(1, min(rules, 4)), 1+r.Intn(14))
	if r.Intn(3) == 0 {
		formula = spoiledFormula(r, formula)
	}
	return policy + formula
}
