package veil_test

import (
	"maps"
	"math/rand"
	"slices"
	"strconv"
	"strings"
	"testing"

	"veil/api"
)

// A model of tuples. It goes through the strings length by length, and keeps
// of each tuple the least string of that length which leads to it.

// led: the states, table by table, to which a byte leads from states.
func led(tables []string, states string, b byte) string {
	after := []byte{}
	for i, table := range tables {
		count, classes := int(table[0]), int(table[1])
		after = append(after, table[258+count+int(states[i])*classes+int(table[2+int(b)])])
	}
	return string(after)
}

// longer: what strings of one byte more lead to.
func longer(tables []string, least map[string]string) map[string]string {
	after := map[string]string{}
	for states, s := range least {
		for b := range 256 {
			to, text := led(tables, states, byte(b)), s+string([]byte{byte(b)})
			if old, known := after[to]; !known || text < old {
				after[to] = text
			}
		}
	}
	return after
}

// countOf: the number of tuples; any number above MaxTuples, if it is above.
func countOf(tables []string) int {
	known := map[string]bool{}
	var visit func(states string)
	visit = func(states string) {
		if known[states] || len(known) > api.MaxTuples {
			return
		}
		known[states] = true
		for b := 255; b >= 0; b-- {
			visit(led(tables, states, byte(b)))
		}
	}
	visit(string(make([]byte, len(tables))))
	return len(known)
}

// firstOf: the first wanted string of at most so many bytes, if most is not -1.
// Where the tuples of a length are those of a lesser one, all that come behind
// have been met too.
func firstOf(tables []string, most int, wanted func(s string) bool) (string, bool) {
	least := map[string]string{string(make([]byte, len(tables))): ""}
	met := map[string]bool{}
	for length := 0; most < 0 || length <= most; length++ {
		first, found := "", false
		for _, s := range least {
			if wanted(s) && (!found || s < first) {
				first, found = s, true
			}
		}
		all := strings.Join(slices.Sorted(maps.Keys(least)), "")
		if found || met[all] {
			return first, found
		}
		met[all] = true
		least = longer(tables, least)
	}
	return "", false
}

// witness is what Witness has to answer of an image.
func witness(image string) (string, bool, api.Errno) {
	tables := tablesOf(image)
	if countOf(tables) > api.MaxTuples {
		return "", false, api.ErrBig
	}
	s, found := firstOf(tables, int(image[2]), func(s string) bool { return grants(image, s) })
	return s, found, api.OK
}

// differ is what Differ has to answer of two images.
func differ(x, y string) (string, bool, api.Errno) {
	tables := append(tablesOf(x), tablesOf(y)...)
	if countOf(tables) > api.MaxTuples {
		return "", false, api.ErrBig
	}
	s, found := firstOf(tables, -1, func(s string) bool { return grants(x, s) != grants(y, s) })
	return s, found, api.OK
}

// tally counts answers: ErrBig, a string of a byte or more, and false.
type tally struct{ big, some, none int }

func (k *tally) add(s string, found bool, e api.Errno) {
	switch {
	case e == api.ErrBig:
		k.big++
	case s != "":
		k.some++
	case !found:
		k.none++
	}
}

// check tells whether some random answers were of every kind.
func (k *tally) check(t *testing.T) {
	t.Helper()
	if k.big < 20 || k.some < 100 || k.none < 100 {
		t.Errorf("too few answers of a kind: %+v", *k)
	}
}

// anySmallTable makes some table in which all bytes but a few are of one class.
// Of some each class leads round all states, and the last state is granted.
func anySmallTable(r *rand.Rand, states int) string {
	classes := 1 + r.Intn(3)
	table := []byte(anyTableOf(r, states, classes))
	for b := range 256 {
		if r.Intn(60) > 0 {
			table[2+b] = table[2]
		}
	}
	if r.Intn(2) == 0 {
		return string(table)
	}
	for state := range states {
		table[258+state] = map[bool]byte{true: 1}[state == states-1]
		for class := range classes {
			table[258+states+state*classes+class] = byte((state + class) % states)
		}
	}
	return string(table)
}

// anySmallImage makes some image of such tables.
func anySmallImage(r *rand.Rand, rules, states int) string {
	tables := []string{}
	for range rules {
		tables = append(tables, anySmallTable(r, 1+r.Intn(states)))
	}
	formula := anyOf(r, "a", "!a", strconv.Itoa(1+r.Intn(rules))+"("+"abcd"[:rules]+")", anyFormulaWithin(r, rules, 1+r.Intn(8)))
	return imageOf(r.Intn(17), formula, tables...)
}
