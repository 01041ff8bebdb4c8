package veil_test

import (
	"math/rand"
	"strings"
	"testing"

	"veil/api"
	"veil/veil"
)

// matchCase: the strings of yes match, those of no do not.
type matchCase struct {
	p       string
	yes, no []string
}

func checkMatches(t *testing.T, cases []matchCase) {
	t.Helper()
	for _, c := range cases {
		for _, s := range c.yes {
			if v, e := veil.Match(c.p, s); !v || e != api.OK {
				t.Errorf("P4: Match(%q, %q) = %v, %d, want true", c.p, s, v, e)
			}
		}
		for _, s := range c.no {
			if v, e := veil.Match(c.p, s); v || e != api.OK {
				t.Errorf("P4: Match(%q, %q) = %v, %d, want false", c.p, s, v, e)
			}
		}
	}
}

func TestMatchBranchesAndPieces(t *testing.T) {
	checkMatches(t, []matchCase{
		{"", []string{""}, []string{"a", "\x00"}},
		{"()", []string{""}, []string{"a"}},
		{"a|", []string{"", "a"}, []string{"aa", "b"}},
		{"ab|c", []string{"ab", "c"}, []string{"ac", "a", "abc", ""}},
		{"(ab|a)(b|)", []string{"ab", "a", "abb"}, []string{"b", "", "abbb"}},
		{"(a|ab)(bc|c)", []string{"abc", "ac", "abbc"}, []string{"ab", "abcc"}},
		{"a-b^,", []string{"a-b^,"}, []string{"a-b^"}},
	})
}

func TestMatchSuffixes(t *testing.T) {
	full := strings.Repeat("a", 16)
	checkMatches(t, []matchCase{
		{"a*", []string{"", "a", full}, []string{"b", full[:15] + "b", "b" + full[:15]}},
		{"a+", []string{"a", full}, []string{"", "b"}},
		{"a?", []string{"", "a"}, []string{"aa"}},
		{"a{2,3}", []string{"aa", "aaa"}, []string{"", "a", "aaaa"}},
		{"a{2,1}", nil, []string{"", "a", "aa"}},
		{"a{1,0}", nil, []string{"", "a"}},
		{"a{0,0}", []string{""}, []string{"a"}},
		{"a*{1,0}", nil, []string{"", "a"}},
		{"(a{1,0})*", []string{""}, []string{"a"}},
		{"a{1,0}+", nil, []string{"", "a"}},
		{"b(a{1,0})?c", []string{"bc"}, []string{"bac", "b"}},
		{"a{1,0}|b", []string{"b"}, []string{"", "a", "ab"}},
		{"a{1,0}b", nil, []string{"b", "ab"}},
		{"(a{0,0}b)+", []string{"b", "bb"}, []string{"", "ab"}},
		{"ab{2,2}", []string{"abb"}, []string{"abab"}},
		{"(ab){2,2}", []string{"abab"}, []string{"abb", "ab"}},
		{"a+{2,2}", []string{"aa", "aaa"}, []string{"", "a"}},
		{"a*{2,2}", []string{"", "a"}, []string{"b"}},
		{"a{2,2}{0,2}", []string{"", "aa", "aaaa"}, []string{"a", "aaa"}},
		{"a{2,2}*", []string{"", "aa", full}, []string{"a", full[:15]}},
		{"a?{3,3}", []string{"", "a", "aaa"}, []string{"aaaa"}},
		{"a?+", []string{"", "a", "aa"}, []string{"b"}},
		{"(a*)*b", []string{"b", "aab"}, []string{"aa"}},
		{"(a" + strings.Repeat("{9,9}", 10) + "){0,0}", []string{""}, []string{"a"}},
		{"a" + strings.Repeat("*", 59), []string{"", full}, []string{"b"}},
		{strings.Repeat("(", 15) + "a" + strings.Repeat(")*", 15), []string{"", full}, []string{"ab"}},
		{".{0,6}{2,2}", []string{"", full[:12]}, []string{full[:13], full}},
	})
}

func TestMatchBytesAndSets(t *testing.T) {
	checkMatches(t, []matchCase{
		{".", []string{"a", "\n", "\x00", "\xff"}, []string{"", "aa", "\u00e9"}},
		{"..", []string{"\u00e9"}, []string{"e"}},
		{"[a-cx]", []string{"a", "b", "c", "x"}, []string{"d", "w", "`", "-", "", "ab"}},
		{"[^a-c]", []string{"d", "\x00", "\xff", "^"}, []string{"a", "b", "c", "", "dd"}},
		{"[z-a]", nil, []string{"m", "z", "a", "-", ""}},
		{"[^z-a]", []string{"m", "z"}, []string{""}},
		{"[a-a]", []string{"a"}, []string{"b"}},
		{"[.*|()]", []string{".", "*", "|", "(", ")"}, []string{"a"}},
		{`[\]\[\-\^\\]`, []string{"]", "[", "-", "^", `\`}, []string{"a"}},
		{`[\2d-\2f]`, []string{"-", ".", "/"}, []string{",", "0"}},
		{`[\80-\ff]`, []string{"\x80", "\xff"}, []string{"\x7f"}},
		{`\41\.`, []string{"A."}, []string{"Ax", "AA"}},
		{`\00\ff\0a`, []string{"\x00\xff\n"}, []string{"\x00\xff"}},
		{`\|\*\+\?\{\}\(\)\[\]`, []string{"|*+?{}()[]"}, []string{""}},
		{`\.\\\-\^`, []string{`.\-^`}, []string{`a\-^`}},
	})
}

func TestMatchEveryByte(t *testing.T) {
	const digits = "0123456789abcdef"
	for b := range 256 {
		escape := `\` + digits[b/16:b/16+1] + digits[b%16:b%16+1]
		one, other := string([]byte{byte(b)}), string([]byte{byte(b + 1)})
		checkMatches(t, []matchCase{
			{".", []string{one}, nil},
			{escape, []string{one}, []string{other}},
			{"[" + escape + "]", []string{one}, []string{other}},
			{"[^" + escape + "]", []string{other}, []string{one}},
		})
	}
}

func TestMatchErrors(t *testing.T) {
	long, full := strings.Repeat("a", 17), strings.Repeat("a", 16)
	for _, c := range []struct {
		p, s string
		e    api.Errno
	}{
		{"a*", full, api.OK},
		{"a*", long, api.ErrLong},
		{"*", long, api.ErrLong},
		{strings.Repeat("a", 13), long, api.ErrLong},
		{strings.Repeat("a", 61), "a", api.ErrLong},
		{strings.Repeat("*", 61), "", api.ErrLong},
		{"*", full, api.ErrPattern},
		{strings.Repeat("a", 13) + "(", "", api.ErrPattern},
		{strings.Repeat("a", 13), full, api.ErrBig},
		{".{7,7}{2,2}", "", api.ErrBig},
		{"a", strings.Repeat("a", 5000000), api.ErrLong},
	} {
		if v, e := veil.Match(c.p, c.s); v != (c.e == api.OK) || e != c.e {
			t.Errorf("P4: Match(%.70q, %.20q) = %v, %d, want %d", c.p, c.s, v, e, c.e)
		}
	}
}

func TestMatchByModel(t *testing.T) {
	r := rand.New(rand.NewSource(2))
	strs := allStrings("abc", 4)
	for range 1500 {
		p := anyPattern(r, 1+r.Intn(7))
		m := models{}.pattern(p)
		if m == nil || m.weight > api.MaxWeight || len(p) > api.MaxPattern {
			continue
		}
		for _, s := range strs {
			if v, e := veil.Match(p, s); v != m.matches(s) || e != api.OK {
				t.Errorf("P4: Match(%q, %q) = %v, %d, want %v", p, s, v, e, m.matches(s))
			}
		}
	}
}
