package judge

import (
	"veil/api"
	"veil/policies"
	"veil/table"
)

// area is a part of the memory: the addresses from begin on, below end.
type area struct {
	begin, end int
}

// layer lays the words of the data, one behind the other.
type layer struct {
	data []int
}

// address is that of the next word.
func (l *layer) address() int { return api.DataAt + len(l.data) }

// verdicts lays whether a secret is granted, 1 or 0, for all the ways in which
// the rules can be true of it. The rule with the number i has the mark 2 to the
// i, and the verdict stands at the sum of the marks of the true rules: so the
// formula itself needs no code.
func (l *layer) verdicts(m *policies.Image) area {
	begin := l.address()
	sums := 1
	for i := 0; i < m.Rules(); i++ {
		sums *= 2
	}
	for sum := 0; sum < sums; sum++ {
		truths := marked(sum, m.Rules())
		granted := 0
		if m.Grants(truths) {
			granted = 1
		}
		l.data = append(l.data, granted)
	}
	return area{begin, l.address()}
}

// marked tells of each rule whether its mark is in the sum.
func marked(sum, rules int) []bool {
	truths := []bool{}
	for i := 0; i < rules; i++ {
		truths = append(truths, sum%2 == 1)
		sum /= 2
	}
	return truths
}

// classes lays for each byte where in a state's row its class stands.
func (l *layer) classes(t *table.Table) area {
	begin := l.address()
	for b := 0; b < 256; b++ {
		class := t.Class(byte(b))
		l.data = append(l.data, 1+class)
	}
	return area{begin, l.address()}
}

// rows lays for each state its row: the rule's mark, if the state is granted,
// else 0; then for each class the address of the row of the state to which it
// leads. So a state is known by the address of its row alone.
func (l *layer) rows(t *table.Table, mark int) area {
	begin := l.address()
	for state := 0; state < t.States(); state++ {
		first := 0
		if t.Granted(state) {
			first = mark
		}
		l.data = append(l.data, first)
		for class := 0; class < t.Classes(); class++ {
			next := t.Next(state, class)
			l.data = append(l.data, begin+next*(1+t.Classes()))
		}
	}
	return area{begin, l.address()}
}
