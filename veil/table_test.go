package veil_test

import (
	"fmt"
	"math/rand"
	"strings"
	"testing"

	"veil/api"
	"veil/veil"
)

// tableText: a table of as many classes; each byte of the text classes[c] is of
// class c+1, every other byte of class 0.
func tableText(states int, classes []string, rest ...byte) string {
	b := make([]byte, 256)
	for c, text := range classes {
		for i := range len(text) {
			b[text[i]] = byte(c + 1)
		}
	}
	return string([]byte{byte(states), byte(len(classes) + 1)}) + string(b) + string(rest)
}

// shown: a table, with the bytes of class 0 left out.
func shown(table string) string {
	if len(table) < 258 {
		return fmt.Sprintf("%q", table)
	}
	text := fmt.Sprintf("%d states %d classes", table[0], table[1])
	for b := range 256 {
		if table[2+b] != 0 {
			text += fmt.Sprintf(" %d:%d", b, table[2+b])
		}
	}
	return text + fmt.Sprint(" ", []byte(table[258:]))
}

func fromTo(low, high int) string {
	b := []byte{}
	for i := low; i <= high; i++ {
		b = append(b, byte(i))
	}
	return string(b)
}

func TestTables(t *testing.T) {
	for _, c := range []struct{ p, want string }{
		{".", tableText(3, nil, 0, 1, 0, 1, 2, 2)},
		{"a", tableText(3, []string{"a"}, 0, 0, 1, 1, 2, 1, 1, 1, 1)},
		{"a*", tableText(2, []string{"a"}, 1, 0, 1, 0, 1, 1)},
		{"a{1,0}", tableText(1, nil, 0, 0)},
		{"[b-a]", tableText(1, nil, 0, 0)},
		{".*", tableText(1, nil, 1, 0)},
		{"(.|)*.?", tableText(1, nil, 1, 0)},
		{"", tableText(2, nil, 1, 0, 1, 1)},
		{"(a" + strings.Repeat("{9,9}", 10) + "){0,0}", tableText(2, nil, 1, 0, 1, 1)},
		{".+", tableText(2, nil, 0, 1, 1, 1)},
		// The byte 0 leads to the state 1, whatever it is.
		{`\00`, tableText(3, []string{fromTo(1, 255)}, 0, 1, 0, 1, 2, 2, 2, 2, 2)},
		{`[^\00]`, tableText(3, []string{fromTo(1, 255)}, 0, 0, 1, 1, 2, 1, 1, 1, 1)},
		{`[\80-\ff]`, tableText(3, []string{fromTo(128, 255)}, 0, 0, 1, 1, 2, 1, 1, 1, 1)},
		// 2 is a, 3 is b, 4 are ab and ba, which are alike.
		{"ab|ba", tableText(5, []string{"a", "b"},
			0, 0, 0, 0, 1,
			1, 2, 3, 1, 1, 1, 1, 1, 4, 1, 4, 1, 1, 1, 1)},
		// The shortest is first: 2 is a, 3 is c, 4 is d, 5 is ab.
		{"abx|cy|d", tableText(6, []string{"a", "b", "c", "d", "x", "y"},
			0, 0, 0, 0, 1, 0,
			1, 2, 1, 3, 4, 1, 1,
			1, 1, 1, 1, 1, 1, 1,
			1, 1, 5, 1, 1, 1, 1,
			1, 1, 1, 1, 1, 1, 4,
			1, 1, 1, 1, 1, 1, 1,
			1, 1, 1, 1, 1, 4, 1)},
		// A byte may do what one far from it does.
		{"[^b-y].*", tableText(3, []string{fromTo('b', 'y')}, 0, 1, 0, 1, 2, 1, 1, 2, 2)},
		{"(a|b)*", tableText(2, []string{"ab"}, 1, 0, 1, 0, 1, 1)},
		{"(a*b*)*", tableText(2, []string{"ab"}, 1, 0, 1, 0, 1, 1)},
		// The letters of the pattern make no difference.
		{"a|.", tableText(3, nil, 0, 1, 0, 1, 2, 2)},
		{"[a-m]*[n-z]{0,0}|[a-z]*", tableText(2, []string{fromTo('a', 'z')}, 1, 0, 1, 0, 1, 1)},
	} {
		if s, e := veil.Table(c.p); s != c.want || e != api.OK {
			t.Errorf("P5: Table(%q) = %s, %d, want %s", c.p, shown(s), e, shown(c.want))
		}
	}
}

func TestTableBounds(t *testing.T) {
	for _, c := range []struct {
		p               string
		states, classes int
	}{
		{"(.{3,3})*|(.{8,8})*", 24, 1},
		{"(a{3,3})*|(a{7,7})*", 22, 2},
		{".*a.{3,3}", 16, 2},
		{".{9,9}...", 14, 1},
		{"[^a]*a{0,9}", 11, 2},
		{"[q-x][i-p][e-hm-pu-x][cdghklopstwx][bdfhjlnprtvx]", 7, 24},
		{"abcdefghijkl", 14, 13},
	} {
		s, e := veil.Table(c.p)
		if e != api.OK || len(s) != 258+c.states*(1+c.classes) || int(s[0]) != c.states || int(s[1]) != c.classes {
			t.Errorf("P5: Table(%q) = %s, %d, want %d states, %d classes", c.p, shown(s), e, c.states, c.classes)
		}
	}
}

func TestTableErrors(t *testing.T) {
	for _, c := range []struct {
		p string
		e api.Errno
	}{
		{"(.{3,3})+|(.{8,8})+", api.ErrBig}, // 25 states
		{"(a{3,3})*|(a{8,8})*", api.ErrBig}, // 25 states
		{"(.{5,5})*|(.{6,6})*", api.ErrBig},
		{".*a.{4,4}", api.ErrBig},
		{".*a.{9,9}", api.ErrBig},
		{"[q-y][i-py][e-hm-pu-x][cdghklopstwx][bdfhjlnprtvx]", api.ErrBig}, // 25 classes
		{strings.Repeat("a", 13), api.ErrBig},
		{".{7,7}{2,2}", api.ErrBig},
		{"*", api.ErrPattern},
		{"(a", api.ErrPattern},
		{"a\n", api.ErrPattern},
		{strings.Repeat("a", 13) + "(", api.ErrPattern},
		{".*a.{9,9})", api.ErrPattern},
		{strings.Repeat("a", 61), api.ErrLong},
		{strings.Repeat("*", 61), api.ErrLong},
	} {
		if s, e := veil.Table(c.p); s != "" || e != c.e {
			t.Errorf("P5: Table(%q) = %s, %d, want %d", c.p, shown(s), e, c.e)
		}
	}
}

func TestTableByModel(t *testing.T) {
	r := rand.New(rand.NewSource(5))
	for i := range 600 {
		p := anyPattern(r, 1+r.Intn(10))
		if i%4 == 0 {
			p = boundPattern(r)
		}
		m := models{}.pattern(p)
		if m == nil || m.weight > api.MaxWeight || len(p) > api.MaxPattern {
			continue
		}
		want, f := tableOf(m)
		if s, e := veil.Table(p); s != want || e != f {
			t.Errorf("P5: Table(%q) = %s, %d, want %s, %d", p, shown(s), e, shown(want), f)
		}
	}
}

// read reads a string by a table.
func read(table, s string) bool {
	state, states, classes := 0, int(table[0]), int(table[1])
	for i := range len(s) {
		class := int(table[2+int(s[i])])
		state = int(table[258+states+state*classes+class])
	}
	return table[258+state] == 1
}

// P5: a string is granted by the table just if it matches.
func TestTableGrantsWhatMatches(t *testing.T) {
	r := rand.New(rand.NewSource(6))
	strs := allStrings("abc\xff", 4)
	for range 300 {
		p := anyPattern(r, 1+r.Intn(8))
		table, e := veil.Table(p)
		if e != api.OK {
			continue
		}
		for range 100 {
			s := anyOf(r, strs...) + anyOf(r, strs...) + anyOf(r, strs...) + anyOf(r, strs...)
			s = s[r.Intn(len(s)+1):]
			if v, e := veil.Match(p, s); read(table, s) != v || e != api.OK {
				t.Errorf("P5: Table(%q) grants %q: %v; Match: %v, %d", p, s, !v, v, e)
			}
		}
	}
}
