package veil_test

import (
	"fmt"
	"math/rand"
	"slices"
	"strings"

	"veil/api"
)

// A model of tables. Two strings are alike if the same may stand behind both:
// so the model keeps, for a string, all that would make it a match. A rest is
// a chain of models that must be matched one behind the other.

type rest struct {
	head *model
	tail *rest
}

func (r *rest) text() string {
	if r == nil {
		return "end"
	}
	return fmt.Sprintf("%p ", r.head) + r.tail.text()
}

func (r *rest) then(tail *rest) *rest {
	if r == nil {
		return tail
	}
	return &rest{r.head, r.tail.then(tail)}
}

func (r *rest) isEmpty() bool {
	return r == nil || r.head.matches("") && r.tail.isEmpty()
}

// rests keeps the models of fewer times, so that the same rest is always made
// of the same models.
type rests map[string]*model

func (k rests) times(m *model, suffix string, low, high int) *model {
	key := fmt.Sprintf("%p %s %d %d", m, suffix, low, high)
	if k[key] == nil {
		k[key] = &model{kind: "suffix", suffix: suffix, left: m, low: low, high: high}
	}
	return k[key]
}

// of gives what may stand behind the byte b in a match of m.
func (k rests) of(m *model, b byte) []*rest {
	switch m.kind {
	case "empty":
		return nil
	case "byte":
		if m.set[b] {
			return []*rest{nil}
		}
		return nil
	case "or":
		return append(k.of(m.left, b), k.of(m.right, b)...)
	case "then":
		return k.behind(&rest{m.left, &rest{m.right, nil}}, b)
	}
	var tail *rest
	switch m.suffix {
	case "*", "+":
		tail = &rest{k.times(m.left, "*", 0, 0), nil}
	case "{":
		if m.low > m.high || m.high == 0 {
			return nil
		}
		tail = &rest{k.times(m.left, "{", max(0, m.low-1), m.high-1), nil}
	}
	found := []*rest{}
	for _, r := range k.of(m.left, b) {
		found = append(found, r.then(tail))
	}
	return found
}

// behind gives what may stand behind the byte b in a match of the whole chain.
func (k rests) behind(r *rest, b byte) []*rest {
	if r == nil {
		return nil
	}
	found := []*rest{}
	for _, h := range k.of(r.head, b) {
		found = append(found, h.then(r.tail))
	}
	if r.head.matches("") {
		found = append(found, k.behind(r.tail, b)...)
	}
	return found
}

// tidied gives the rests without those that stand twice, and a text that is the
// same for the same rests.
func tidied(all []*rest) ([]*rest, string) {
	byText := map[string]*rest{}
	texts := []string{}
	for _, r := range all {
		if _, known := byText[r.text()]; !known {
			texts = append(texts, r.text())
		}
		byText[r.text()] = r
	}
	slices.Sort(texts)
	tidy := []*rest{}
	for _, text := range texts {
		tidy = append(tidy, byText[text])
	}
	return tidy, strings.Join(texts, "|")
}

// modelStates are the states of a pattern before alike ones are put together.
type modelStates struct {
	granted []bool
	next    [][]int // of each state, for each byte
}

// findStates goes through the strings in the order of first.
func findStates(m *model) modelStates {
	k, s, sets := rests{}, modelStates{}, [][]*rest{{{m, nil}}}
	_, text := tidied(sets[0])
	numbers := map[string]int{text: 0}
	sorts := sortsOfBytes(m)
	for i := 0; i < len(sets); i++ {
		granted, row, bySort := false, make([]int, 256), map[string]int{}
		for _, r := range sets[i] {
			granted = granted || r.isEmpty()
		}
		for b := range 256 {
			n, known := bySort[sorts[b]]
			if !known {
				all := []*rest{}
				for _, r := range sets[i] {
					all = append(all, k.behind(r, byte(b))...)
				}
				tidy, text := tidied(all)
				n, known = numbers[text]
				if !known {
					n = len(sets)
					numbers[text] = n
					sets = append(sets, tidy)
				}
				bySort[sorts[b]] = n
			}
			row[b] = n
		}
		s.granted, s.next = append(s.granted, granted), append(s.next, row)
	}
	return s
}

// sortsOfBytes tells of each byte in which sets of the model it is.
func sortsOfBytes(m *model) [256]string {
	sorts := [256]string{}
	if m == nil {
		return sorts
	}
	left, right := sortsOfBytes(m.left), sortsOfBytes(m.right)
	for b := range 256 {
		sorts[b] = left[b] + right[b]
		if m.kind == "byte" {
			sorts[b] = fmt.Sprint(m.set[b])
		}
	}
	return sorts
}

// alike gives of each state the number of its kind, by the first of each, and
// the first of each kind.
func (s modelStates) alike() ([]int, []int) {
	kinds, firsts := make([]int, len(s.next)), []int{}
	for {
		known, finer, found := map[string]int{}, []int{}, []int{}
		for i := range s.next {
			mark := fmt.Sprint(s.granted[i], kinds[i])
			for b := range 256 {
				mark += string(rune(kinds[s.next[i][b]]))
			}
			if _, is := known[mark]; !is {
				known[mark] = len(found)
				found = append(found, i)
			}
			finer = append(finer, known[mark])
		}
		if len(found) == len(firsts) {
			return kinds, firsts
		}
		kinds, firsts = finer, found
	}
}

// tableOf makes the table of a model's pattern.
func tableOf(m *model) (string, api.Errno) {
	s := findStates(m)
	kinds, firsts := s.alike()
	known, class, leasts := map[string]int{}, make([]byte, 256), []int{}
	for b := range 256 {
		column := ""
		for _, i := range firsts {
			column += string(rune(kinds[s.next[i][b]]))
		}
		if _, is := known[column]; !is {
			known[column] = len(leasts)
			leasts = append(leasts, b)
		}
		class[b] = byte(known[column])
	}
	if len(firsts) > api.MaxStates || len(leasts) > api.MaxClasses {
		return "", api.ErrBig
	}
	table := append([]byte{byte(len(firsts)), byte(len(leasts))}, class...)
	for _, i := range firsts {
		table = append(table, map[bool]byte{true: 1}[s.granted[i]])
	}
	for _, i := range firsts {
		for _, b := range leasts {
			table = append(table, byte(kinds[s.next[i][b]]))
		}
	}
	return string(table), api.OK
}

// boundPattern makes some pattern with about as many states or classes as may
// be.
func boundPattern(r *rand.Rand) string {
	low, high := 1+r.Intn(5), 2+r.Intn(7)
	switch r.Intn(4) {
	case 0:
		return fmt.Sprintf("(%s{%d,%d})%s|(%s{%d,%d})%s",
			anyOf(r, ".", "a", "[ab]"), low, low, anyOf(r, "*", "+"),
			anyOf(r, ".", "a", "[^b]"), high, high, anyOf(r, "*", "+"))
	case 1:
		return fmt.Sprintf("%s*%s%s{%d,%d}",
			anyOf(r, ".", "[ab]", "[^c]"), anyOf(r, "a", "[ab]", "b", "(a|bb)"),
			anyOf(r, ".", "[ab]", "[^a]"), min(low, 4), min(high, 4))
	case 2:
		return fmt.Sprintf("(a%s{%d,%d}|b%s{%d,%d})%s",
			anyOf(r, ".", "a", "[ab]"), low, min(high, 5),
			anyOf(r, ".", "b", "[^a]"), high/2, min(high, 5), anyOf(r, "", "*", "+"))
	}
	p := ""
	for range 8 + r.Intn(3) {
		first := '0' + r.Intn(30)
		p += fmt.Sprintf("[%c-%c%c]", first, first+r.Intn(13), '0'+r.Intn(43))
	}
	return p
}
