package veil_test

import (
	"math/rand"
	"slices"
	"strings"
	"testing"

	"veil/api"
	"veil/veil"
)

// judged holds an image's code against the promises, and keeps its trace.
type judged struct {
	image string
	code  []api.Op
	data  []int
	trace []int
}

func judge(t *testing.T, image string) *judged {
	t.Helper()
	code, data, e := veil.Code(image)
	if e != api.OK || len(data) > 4096-32 {
		t.Fatalf("P9: Code(%.60q ..): %d words of data, %d", image, len(data), e)
	}
	words, trace, e := veil.Run(code, laid("", data), api.MaxSteps)
	if e != api.OK || words == nil {
		t.Fatalf("P9: the code of %.60q ..: %d", image, e)
	}
	if n := shows(code, laid("", data)); n >= 0 {
		t.Errorf("P9: the code of %.60q .. shows the secret at operation %d", image, n)
	}
	return &judged{image, code, data, trace}
}

// check holds the code and Check against the model, for one secret.
func (j *judged) check(t *testing.T, secret string) {
	t.Helper()
	want := grants(j.image, secret)
	verdict := map[bool]int{true: 1}[want]
	words, trace, e := veil.Run(j.code, laid(secret, j.data), api.MaxSteps)
	if e != api.OK || len(words) != 4096 || words[17] != verdict {
		t.Errorf("P9: the code of %.60q .. over %q: %d, want the verdict %d", j.image, secret, e, verdict)
	}
	if !slices.Equal(trace, j.trace) {
		t.Errorf("P9: the code of %.60q .. over %q has another trace than others", j.image, secret)
	}
	granted, again, e := veil.Check(j.image, secret)
	if granted != want || e != api.OK {
		t.Errorf("P10: Check(%.60q .., %q) = %v, %d, want %v", j.image, secret, granted, e, want)
	}
	if !slices.Equal(again, j.trace) {
		t.Errorf("P10: Check(%.60q .., %q) gives another trace than the code's", j.image, secret)
	}
}

func TestJudgeExamples(t *testing.T) {
	for _, c := range []struct {
		policy  string
		n       int
		yes, no []string
	}{
		{"a*\n!a", 3, []string{"b", "ab", "aab", "\x00", "a\x00", "\xff\xff\xff"}, []string{"", "a", "aa", "aaa"}},
		{".*[0-9].*\n.{3,9}\n2(ab)", 4, []string{"\x00\x000", "123", "abc9"}, []string{"", "12", "abcd", "9"}},
		{"a\n\\00\n1(ab)", 16, []string{"a", "\x00"}, []string{"", "aa", "\x00\x00", strings.Repeat("\x00", 16)}},
		{"\na", 1, []string{""}, []string{"\x00", "\x01", "a"}},
		{"(.{4,4}){2,2}.*\na", 16, []string{strings.Repeat("a", 8), strings.Repeat("\x00", 16)}, []string{"", "a", strings.Repeat("\x00", 7)}},
		{"[a-m]+\n.*b.*\n..\n.\n2(abcd)", 2, []string{"b", "ab", "bz"}, []string{"", "z", "zz"}},
	} {
		image, e, _ := veil.Compile(c.policy, c.n)
		if e != api.OK {
			t.Fatalf("P7: Compile(%q, %d): %d", c.policy, c.n, e)
		}
		j := judge(t, image)
		for _, s := range c.yes {
			if j.check(t, s); !grants(image, s) {
				t.Errorf("P10: %q has to grant %q", c.policy, s)
			}
		}
		for _, s := range c.no {
			if j.check(t, s); grants(image, s) {
				t.Errorf("P10: %q has not to grant %q", c.policy, s)
			}
		}
	}
}

// A policy and its rules: what Check grants is what Match and the formula do.
func TestCheckIsMatch(t *testing.T) {
	r := rand.New(rand.NewSource(13))
	strs := allStrings("ab\xff", 3)
	for range 300 {
		policy := anyPolicy(r)
		image, e, _ := veil.Compile(policy, 12)
		if e != api.OK {
			continue
		}
		lines := strings.Split(policy, "\n")
		last := len(lines) - 1
		for range 5 {
			s := anyOf(r, strs...) + anyOf(r, strs...)
			truths := []bool{}
			for _, rule := range lines[:last] {
				v, _ := veil.Match(rule, s)
				truths = append(truths, v)
			}
			if v, _, e := veil.Check(image, s); v != isTrue(lines[last], truths) || e != api.OK {
				t.Errorf("P10: Check of %q: %q: %v, %d", policy, s, v, e)
			}
		}
	}
}

// Every way in which the rules can be true, by tables that grant all or none.
func TestJudgeFormulas(t *testing.T) {
	formulas := []string{
		"a", "!a", "!!a", "0(a)", "1(a)", "2(a)", "9(a)", "!0(a)", "1(!a)", "2(aa)", "2(a!a)", "3(aa!a)",
		"9(" + strings.Repeat("a", 9) + ")", "9(" + strings.Repeat("a", 8) + "!a)", "8(" + strings.Repeat("a", 37) + ")",
		strings.Repeat("!", 39) + "a", strings.Repeat("1(", 13) + "a" + strings.Repeat(")", 13),
		"b", "!d", "2(abcd)", "3(abcd)", "1(2(ab)2(cd))", "2(1(ab)1(cd))", "2(1(a!b)!2(c!d)0(a))", "1(2(abc)!1(abc))", "4(abcd)", "5(abcd)",
	}
	r := rand.New(rand.NewSource(14))
	for range 400 {
		formulas = append(formulas, anyFormulaWithin(r, 4, 1+r.Intn(24)))
	}
	for _, formula := range formulas {
		for way := range 16 {
			tables := []string{}
			for i := range 4 {
				tables = append(tables, tableText(1, nil, byte(way>>i&1), 0))
			}
			if v, _, e := veil.Check(imageOf(0, formula, tables...), ""); v != grants(imageOf(0, formula, tables...), "") || e != api.OK {
				t.Errorf("P10: the formula %q, with the rules true by the bits of %d: %v, %d", formula, way, v, e)
			}
		}
	}
}

// All secrets of at most two bytes out of some, and all of one byte.
func TestJudgeShortSecrets(t *testing.T) {
	r := rand.New(rand.NewSource(15))
	for n := range 3 {
		j := judge(t, imageOf(n, "1(a!b)", anyTableOf(r, 5, 24), anyTableOf(r, 24, 3)))
		for _, s := range allStrings("\x00\x01a\xfe\xff", n) {
			j.check(t, s)
		}
	}
	j := judge(t, imageOf(1, "2(ab)", anyTableOf(r, 24, 24), tableText(2, nil, 1, 1, 1, 0)))
	for b := range 256 {
		j.check(t, string([]byte{byte(b)}))
	}
}

// Images at the bounds, with secrets of every length.
func TestJudgeBounds(t *testing.T) {
	r := rand.New(rand.NewSource(16))
	for _, size := range [][2]int{{1, 1}, {1, 24}, {24, 1}, {24, 24}} {
		tables := []string{}
		for range 4 {
			tables = append(tables, anyTableOf(r, size[0], size[1]))
		}
		j := judge(t, imageOf(16, "1(2(a!b)2(c!d)!2(abcd)!!2(1(ad)!1(cb)))", tables...))
		for n := range 17 {
			s := ""
			for range n {
				s += string([]byte{byte(r.Intn(256))})
			}
			j.check(t, s)
			j.check(t, strings.Repeat("\x00", n))
			j.check(t, strings.Repeat("\xff", n))
		}
	}
}

// The states count the classes' numbers, modulo 24: every state and class is
// met, the last ones too.
func TestJudgeEveryState(t *testing.T) {
	table := []byte{24, 24}
	for b := range 256 {
		table = append(table, byte(min(b, 23)))
	}
	for state := range 24 {
		table = append(table, map[bool]byte{true: 1}[state == 23])
	}
	for state := range 24 {
		for class := range 24 {
			table = append(table, byte((state+class)%24))
		}
	}
	j := judge(t, imageOf(16, "d", anyTable(), anyTable(), anyTable(), string(table)))
	for b := range 26 {
		j.check(t, string([]byte{byte(b)}))
		j.check(t, strings.Repeat("\x01", 15)+string([]byte{byte(b)}))
		j.check(t, strings.Repeat("\xff", b%17))
	}
}

func TestJudgeAnyImage(t *testing.T) {
	r := rand.New(rand.NewSource(17))
	for range 150 {
		image := anyImage(r)
		j := judge(t, image)
		for range 6 {
			j.check(t, anySecret(r, int(image[2])))
		}
	}
}

// Every image that Open takes has code, and no other text.
func TestCodeImages(t *testing.T) {
	for _, image := range rightImages() {
		judge(t, image)
		for _, text := range []string{"", "V", image[1:], image[:len(image)-1], image + "\x00", image + image, "VQ" + image[2:], "VP\x11" + image[3:]} {
			if code, data, e := veil.Code(text); code != nil || data != nil || e != api.ErrImage {
				t.Errorf("P9: Code(%.60q ..): %d operations, %d words, %d", text, len(code), len(data), e)
			}
			for _, secret := range []string{"", "a", strings.Repeat("a", 17), strings.Repeat("a", 9000000)} {
				if v, trace, e := veil.Check(text, secret); v || trace != nil || e != api.ErrImage {
					t.Errorf("P10: Check(%.60q .., %.20q): %v, %d of a trace, %d", text, secret, v, len(trace), e)
				}
			}
		}
	}
}

func TestCheckLongSecrets(t *testing.T) {
	for n := range 17 {
		image := imageOf(n, "a", anyTable())
		if v, _, e := veil.Check(image, strings.Repeat("a", n)); !v || e != api.OK {
			t.Errorf("P10: Check of %d bytes with N %d: %v, %d", n, n, v, e)
		}
		for _, length := range []int{n + 1, n + 2, 17, 256, 257, 65536, 9000000} {
			if v, trace, e := veil.Check(image, strings.Repeat("a", length)); length > n && (v || trace != nil || e != api.ErrLong) {
				t.Errorf("P10: Check of %d bytes with N %d: %v, %d of a trace, %d", length, n, v, len(trace), e)
			}
		}
	}
}
