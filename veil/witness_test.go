package veil_test

import (
	"math/rand"
	"strings"
	"testing"

	"veil/api"
	"veil/veil"
)

func imageFor(t *testing.T, policy string, n int) string {
	t.Helper()
	image, e, _ := veil.Compile(policy, n)
	if e != api.OK {
		t.Fatalf("P7: Compile(%q, %d): %d", policy, n, e)
	}
	return image
}

func checkWitness(t *testing.T, what, image string, want string, found bool, e api.Errno) {
	t.Helper()
	if s, v, f := veil.Witness(image); s != want || v != found || f != e {
		t.Errorf("P11: Witness of %.80q: %q, %v, %d, want %q, %v, %d", what, s, v, f, want, found, e)
	}
}

// circle: a table that goes round so many states by one byte; granted is one.
func circle(states int, by string, granted int) string {
	return tail(0, states, by, granted)
}

// tail: a table that goes by one byte through some states once, and then round
// as many; granted is one.
func tail(once, round int, by string, granted int) string {
	rest := make([]byte, once+round)
	rest[granted] = 1
	for i := range once + round {
		to := i + 1
		if to == once+round {
			to = once
		}
		rest = append(rest, byte(i), byte(to))
	}
	return tableText(once+round, []string{by}, rest...)
}

// trap: a circle with a last state beside it, to which the byte x leads and
// from which nothing leads away.
func trap(states int, by string, granted int) string {
	rest := make([]byte, states+1)
	rest[granted] = 1
	for i := range states {
		rest = append(rest, byte(i), byte((i+1)%states), byte(states))
	}
	end := byte(states)
	return tableText(states+1, []string{by, "x"}, append(rest, end, end, end)...)
}

func TestWitnessOfPolicies(t *testing.T) {
	twelve := strings.Repeat("\xff", 12)
	for _, c := range []struct {
		policy string
		n      int
		want   string
		found  bool
	}{
		{".*[0-9].*\n.{3,9}\n2(ab)", 4, "\x00\x000", true},
		{".*[0-9].*\n.{3,9}\n2(ab)", 3, "\x00\x000", true},
		{".*[0-9].*\n.{3,9}\n2(ab)", 2, "", false},
		{"\na", 0, "", true},
		{"\n!a", 0, "", false},
		{"\n!a", 1, "\x00", true},
		{".*\n!a", 16, "", false},
		{"a{1,0}\na", 16, "", false},
		{"a\n9(a)", 16, "", false},
		{"a\n0(a)", 0, "", true},
		{"\\00\na", 1, "\x00", true},
		{"\\00\\00\na", 2, "\x00\x00", true},
		{"\\ff|\\80|\\7f\\00\na", 2, "\x80", true},
		{"\\ff|\\7f|\\80\\00\na", 2, "\x7f", true},
		{"\\ff{9,9}\\ff{3,3}\na", 12, twelve, true},
		{"\\ff{9,9}\\ff{3,3}\na", 11, "", false},
		// The shortest goes before the one of the lesser byte.
		{"aa|b\na", 2, "b", true},
		{"aab|b[ab]\na", 3, "ba", true},
		// It is the first difference that counts, not the last.
		{"ba|ab\na", 2, "ab", true},
		{"abz|bax|acy\na", 3, "abz", true},
		// A rule that the formula does not name says nothing of the secret.
		{"z\na\nb", 1, "a", true},
		{"a*\nb*\n.+\n3(abc)", 16, "", false},
		{"a*\nb*\n.+\n2(abc)", 16, "", true},
		{"(aa)*\n(aaa)*\n.+\n3(abc)", 6, "aaaaaa", true},
		{"(aa)*\n(aaa)*\n.+\n3(abc)", 5, "", false},
	} {
		checkWitness(t, c.policy, imageFor(t, c.policy, c.n), c.want, c.found, api.OK)
	}
}

// N is the bound, not the number of tuples.
func TestWitnessLengths(t *testing.T) {
	for n := range 17 {
		for granted := range 24 {
			for _, formula := range []string{"a", "!!a"} {
				image := imageOf(n, formula, circle(24, "a", granted))
				want := strings.Repeat("a", granted)
				if granted > n {
					want = ""
				}
				checkWitness(t, formula, image, want, granted <= n, api.OK)
			}
		}
	}
}

func TestWitnessEveryByte(t *testing.T) {
	for b := range 256 {
		one := tableText(2, []string{fromTo(b, b)}, 0, 1, 0, 1, 1, 1)
		checkWitness(t, "a table of one byte", imageOf(1, "a", one), fromTo(b, b), true, api.OK)
		from := tableText(2, []string{fromTo(b, 255)}, 0, 1, 0, 1, 0, 1)
		checkWitness(t, "a table of the bytes from one on", imageOf(16, "2(ab)", from, anyTable()), fromTo(b, b), true, api.OK)
	}
}

// Tables that no pattern has: it is the bytes that have an order, not the
// classes or the states, and what no byte leads to is no tuple.
func TestWitnessOfOtherTables(t *testing.T) {
	apart := "\x03\x02\x01" + strings.Repeat("\x00", 255)
	checkWitness(t, "classes in another order", imageOf(3, "a", apart+"\x00\x01\x01"+"\x01\x02\x01\x01\x02\x02"), "\x00", true, api.OK)
	both := tableText(3, []string{"a", "b"}, 0, 1, 1, 0, 2, 1, 1, 1, 1, 2, 2, 2)
	checkWitness(t, "states in another order", imageOf(3, "a", both), "a", true, api.OK)
	alike := tableText(2, nil, 1, 1, 1, 0)
	checkWitness(t, "alike states", imageOf(3, "!a", alike), "", false, api.OK)
	far := tableText(3, nil, 0, 0, 1, 1, 0, 2)
	checkWitness(t, "a state to which nothing leads", imageOf(16, "a", far), "", false, api.OK)
	empty := "\x02\x02" + strings.Repeat("\x00", 256) + "\x00\x01" + "\x00\x01\x00\x01"
	checkWitness(t, "a class without bytes", imageOf(16, "a", empty), "", false, api.OK)
	still := "\x18\x01" + strings.Repeat("\x00", 256) + strings.Repeat("\x01", 24) + strings.Repeat("\x00", 24)
	checkWitness(t, "states that are never met", imageOf(16, "4(abcd)", still, still, still, still), "", true, api.OK)
	whole := sized(24, 24)
	checkWitness(t, "two states of 24 met", imageOf(16, "4(abcd)", whole, whole, whole, whole), "", true, api.OK)
}

// many: tables of some numbers of tuples, from 255 to above 256.
func many() (right, wrong [][]string) {
	right = [][]string{
		{circle(16, "a", 15), circle(16, "b", 15)},
		{circle(4, "a", 0), circle(4, "b", 0), circle(4, "c", 0), circle(4, "d", 0)},
		{circle(16, "a", 3), circle(8, "a", 3), circle(16, "b", 3), circle(2, "b", 1)},
		{circle(15, "a", 3), circle(17, "b", 2)},
		{trap(15, "a", 3), trap(17, "b", 2)},
		{tail(4, 1, "a", 1), circle(4, "a", 3), circle(7, "a", 6), circle(9, "a", 8)},
		{tail(20, 4, "a", 23), circle(23, "a", 0)},
	}
	wrong = [][]string{
		{trap(16, "a", 15), trap(16, "b", 15)},
		{tail(5, 1, "a", 1), circle(4, "a", 3), circle(7, "a", 6), circle(9, "a", 8)},
		{circle(16, "a", 15), circle(17, "b", 15)},
		{circle(17, "a", 15), circle(16, "a", 15)},
		{circle(4, "a", 0), circle(4, "b", 0), circle(4, "c", 0), circle(5, "d", 0)},
		{circle(24, "a", 0), circle(24, "b", 0)},
		{circle(24, "a", 0), circle(24, "b", 0), circle(24, "c", 0), circle(24, "d", 0)},
	}
	return right, wrong
}

// What the formula asks and how long a secret may be has no part in the number
// of tuples.
func TestWitnessTuples(t *testing.T) {
	right, wrong := many()
	for _, tables := range right {
		if count := countOf(tables); count > 256 {
			t.Errorf("the test's tables have %d tuples", count)
		}
		checkWitness(t, "tables of up to 256 tuples", imageOf(16, "0(a)", tables...), "", true, api.OK)
		checkWitness(t, "tables of up to 256 tuples", imageOf(16, "!0(a)", tables...), "", false, api.OK)
	}
	for _, tables := range wrong {
		if count := countOf(tables); count < 257 {
			t.Errorf("the test's tables have %d tuples", count)
		}
		for _, formula := range []string{"a", "!a", "0(a)", "9(ab)", "b", "2(ab)"} {
			for _, n := range []int{0, 1, 16} {
				checkWitness(t, "tables of more than 256 tuples", imageOf(n, formula, tables...), "", false, api.ErrBig)
			}
		}
	}
	checkWitness(t, "256 tuples", imageOf(16, "2(ab)", circle(16, "a", 9), circle(16, "b", 7)), strings.Repeat("a", 9)+strings.Repeat("b", 7), true, api.OK)
	checkWitness(t, "256 tuples", imageOf(16, "2(ab)", circle(16, "a", 9), circle(16, "b", 8)), "", false, api.OK)
	checkWitness(t, "256 tuples", imageOf(4, "a", tail(4, 1, "a", 4), circle(4, "a", 3), circle(7, "a", 6), circle(9, "a", 8)), "aaaa", true, api.OK)
}

func TestWitnessOfNoImage(t *testing.T) {
	texts := []string{"", "V", "VP", "a\na", strings.Repeat("V", 9000000)}
	_, wrong := many()
	for _, image := range append(rightImages(), imageOf(16, "a", wrong[0]...)) {
		texts = append(texts, image[1:], image[:len(image)-1], image+"\x00", image+image, "VQ"+image[2:], "VP\x11"+image[3:])
	}
	for _, text := range texts {
		checkWitness(t, text, text, "", false, api.ErrImage)
	}
}

// A policy's witness is the first of all strings that its rules and its formula
// let by. Of the bytes that no rule names the least stands for all.
func TestWitnessByMatch(t *testing.T) {
	r := rand.New(rand.NewSource(21))
	strs := allStrings("\x00-^abc", 3)
	some := 0
	for range 800 {
		policy := anyPattern(r, 1+r.Intn(5)) + "\n" + anyPattern(r, 1+r.Intn(5)) + "\n" + anyOf(r, "a", "2(ab)", "!1(ab)", "2(a!b)", "1(2(ab)!1(ab))", anyFormulaWithin(r, 2, 1+r.Intn(8)))
		n := r.Intn(4)
		image, e, _ := veil.Compile(policy, n)
		if e != api.OK || countOf(tablesOf(image)) > api.MaxTuples {
			continue
		}
		lines := strings.Split(policy, "\n")
		last := len(lines) - 1
		want, found := "", false
		for _, s := range strs {
			truths := []bool{}
			for _, rule := range lines[:last] {
				v, _ := veil.Match(rule, s)
				truths = append(truths, v)
			}
			if len(s) <= n && isTrue(lines[last], truths) {
				want, found = s, true
				break
			}
		}
		if want != "" {
			some++
		}
		checkWitness(t, policy, image, want, found, api.OK)
	}
	if some < 50 {
		t.Errorf("only %d policies had a witness of a byte or more", some)
	}
}

func TestWitnessByModel(t *testing.T) {
	r := rand.New(rand.NewSource(22))
	met := tally{}
	for range 1000 {
		image := anySmallImage(r, 1+r.Intn(4), 1+r.Intn(16))
		want, found, e := witness(image)
		checkWitness(t, image, image, want, found, e)
		met.add(want, found, e)
		if v, _, f := veil.Check(image, want); found && (!v || f != api.OK) {
			t.Errorf("P10: Check of a witness: %v, %d", v, f)
		}
	}
	met.check(t)
}
