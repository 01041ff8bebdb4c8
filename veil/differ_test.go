package veil_test

import (
	"math/rand"
	"strings"
	"testing"

	"veil/api"
	"veil/veil"
)

// checkDiffer asks both ways: which of the images is the first says nothing.
func checkDiffer(t *testing.T, what, x, y string, want string, found bool, e api.Errno) {
	t.Helper()
	for _, pair := range [][2]string{{x, y}, {y, x}} {
		if s, v, f := veil.Differ(pair[0], pair[1]); s != want || v != found || f != e {
			t.Errorf("P12: Differ of %.80q: %q, %v, %d, want %q, %v, %d", what, s, v, f, want, found, e)
		}
	}
}

func TestDifferOfPolicies(t *testing.T) {
	for _, c := range []struct {
		x, y  string
		want  string
		found bool
	}{
		{"a*\na", "a+\na", "", true},
		{"(a|b)*\na", "(a*b*)*\na", "", false},
		{"a{0,2}\na", "a*\na", "aaa", true},
		{"a\na", "a\na", "", false},
		{"a\na", "a\n!a", "", true},
		{"a\na", "a\n!!a", "", false},
		{"a\nb\na", "a\nb\nb", "a", true},
		{"a\nb\na", "b\na\nb", "", false},
		{"a\nb\n.*\n..\n1(ab)", "[ab]\na", "", false},
		{"a\nb\n.*\n..\n1(ab)", "a|b|..\na", "\x00\x00", true},
		{"a\nb\nc\nd\n1(abcd)", "d\nc\nb\n\\00\n1(abcd)", "\x00", true},
		{"a\nb\nc\nd\n1(abcd)", "d\nc\nb\ne\n1(abcd)", "a", true},
		{"a\nb\nc\nd\n1(abcd)", "d\nc\nb\na\n1(dcba)", "", false},
		{"a{1,0}\na", "b\n2(a)", "", false},
		{"a{1,0}\na", "\\ff\na", "\xff", true},
		{"\\7f\n!a", "\\80\n!a", "\x7f", true},
		// The shortest goes before the one of the lesser byte.
		{"aa|b\na", "aa\na", "b", true},
		{"aa|b\na", "b\na", "aa", true},
		{"aa|b\na", "c\na", "b", true},
		{"ba|ab\na", "cc\na", "ab", true},
		{".*a.*\n.*b.*\n2(ab)", ".*a.*b.*\na", "ba", true},
		{".*a.*\n.*b.*\n2(ab)", ".*a.*b.*|.*b.*a.*\na", "", false},
		{".{9,9}.{3,3}\na", ".{9,9}.{2,2}\na", strings.Repeat("\x00", 11), true},
	} {
		for _, n := range [][2]int{{0, 0}, {16, 0}, {0, 3}, {16, 16}} {
			checkDiffer(t, c.x+" and "+c.y, imageFor(t, c.x, n[0]), imageFor(t, c.y, n[1]), c.want, c.found, api.OK)
		}
	}
}

// N plays no part, nor does the most that a secret may ever have.
func TestDifferLengths(t *testing.T) {
	never := imageOf(0, "a", tableText(1, nil, 0, 0))
	for granted := range 24 {
		x := imageOf(granted%17, "a", circle(24, "z", granted))
		checkDiffer(t, "a circle of 24", x, never, strings.Repeat("z", granted), true, api.OK)
	}
	for _, n := range []int{0, 16} {
		x := imageOf(n, "2(ab)", circle(16, "a", 15), circle(16, "b", 15))
		checkDiffer(t, "30 bytes", x, never, strings.Repeat("a", 15)+strings.Repeat("b", 15), true, api.OK)
		// 256 tuples, one behind the other: 4 once, and then 252 round.
		y := imageOf(n, "4(abcd)", tail(4, 1, "a", 4), circle(4, "a", 3), circle(7, "a", 3), circle(9, "a", 3))
		checkDiffer(t, "255 bytes", y, never, strings.Repeat("a", 255), true, api.OK)
		z := imageOf(n, "4(abcd)", tail(4, 1, "a", 1), circle(4, "a", 3), circle(7, "a", 3), circle(9, "a", 3))
		checkDiffer(t, "256 tuples", z, never, "", false, api.OK)
	}
	// The tables of both together have those 256 tuples.
	x := imageOf(16, "2(ab)", tail(4, 1, "a", 4), circle(9, "a", 3))
	y := imageOf(16, "2(2(ab)!2(cd))", circle(9, "a", 3), tail(4, 1, "a", 4), circle(4, "a", 3), circle(7, "a", 3))
	checkDiffer(t, "255 bytes by the tables of both", x, y, strings.Repeat("a", 255), true, api.OK)
}

func TestDifferEveryByte(t *testing.T) {
	for b := range 255 {
		x := imageOf(0, "a", tableText(2, []string{fromTo(b, 255)}, 0, 1, 0, 1, 1, 1))
		y := imageOf(0, "b", anyTable(), tableText(2, []string{fromTo(b+1, 255)}, 0, 1, 0, 1, 1, 1))
		checkDiffer(t, "tables that part at a byte", x, y, fromTo(b, b), true, api.OK)
	}
}

// The states of both are a tuple together: what two images do alike is counted
// once, what they do apart is counted in every way.
func TestDifferTuples(t *testing.T) {
	right, wrong := many()
	never := imageOf(3, "a", tableText(1, nil, 0, 0))
	for _, tables := range right {
		x := imageOf(16, "!a", tables...)
		checkDiffer(t, "an image and itself", x, x, "", false, api.OK)
		half := len(tables) / 2
		a, b := imageOf(2, "0(a)", tables[:half]...), imageOf(5, "!0(a)", tables[half:]...)
		checkDiffer(t, "up to 256 tuples of both", a, b, "", true, api.OK)
		checkDiffer(t, "up to 256 tuples of both", a, imageOf(5, "0(a)", tables[half:]...), "", false, api.OK)
		// All eight tables that may be.
		checkDiffer(t, "every table twice", imageOf(2, "0(a)", tables...), imageOf(5, "0(a)", tables...), "", false, api.OK)
	}
	for _, tables := range wrong {
		half := len(tables) / 2
		for _, formula := range []string{"a", "!a", "0(a)"} {
			x := imageOf(16, formula, tables...)
			checkDiffer(t, "an image of more than 256 tuples, and itself", x, x, "", false, api.ErrBig)
			checkDiffer(t, "an image of more than 256 tuples, and another", x, never, "", false, api.ErrBig)
			a, b := imageOf(0, formula, tables[:half]...), imageOf(0, "0(a)", tables[half:]...)
			checkDiffer(t, "more than 256 tuples of both", a, b, "", false, api.ErrBig)
		}
	}
	small := imageOf(16, "2(ab)", circle(16, "a", 3), circle(16, "b", 3))
	checkDiffer(t, "256 tuples, and a byte more that leads on", small, imageOf(16, "a", circle(2, "c", 1)), "", false, api.ErrBig)
	checkDiffer(t, "256 tuples, and some of them again", small, imageOf(16, "2(ab)", circle(8, "a", 3), circle(4, "b", 3)), "aaabbbbbbb", true, api.OK)
}

// ErrImage goes before ErrBig.
func TestDifferOfNoImage(t *testing.T) {
	_, wrong := many()
	big := imageOf(16, "a", wrong[0]...)
	images := append(rightImages(), big)
	for _, image := range images {
		for _, text := range []string{"", "V", "VP", "a\na", image[1:], image[:len(image)-1], image + "\x00", image + image, "VQ" + image[2:], "VP\x11" + image[3:]} {
			for _, other := range []string{image, big, text, ""} {
				checkDiffer(t, text, text, other, "", false, api.ErrImage)
			}
		}
	}
	huge := strings.Repeat("VP", 4500000)
	checkDiffer(t, "huge texts", huge, huge, "", false, api.ErrImage)
	checkDiffer(t, "a huge text", huge, big, "", false, api.ErrImage)
}

// Policies of the same strings, said otherwise, and of others.
func TestDifferByMatch(t *testing.T) {
	r := rand.New(rand.NewSource(23))
	strs := allStrings("\x00-^abc", 3)
	some := 0
	for range 400 {
		p, q := anyPattern(r, 1+r.Intn(4)), anyPattern(r, 1+r.Intn(4))
		if r.Intn(2) == 0 {
			q = anyOf(r, "("+p+")|"+q, "("+p+")+", "("+p+"){1,1}", "(("+p+")?)*")
		}
		x, e, _ := veil.Compile(p+"\na", r.Intn(17))
		y, f, _ := veil.Compile(q+"\na", r.Intn(17))
		if e != api.OK || f != api.OK {
			continue
		}
		s, found, e := veil.Differ(x, y)
		if e == api.ErrBig && countOf(append(tablesOf(x), tablesOf(y)...)) > api.MaxTuples {
			continue
		}
		if e != api.OK {
			t.Errorf("P12: Differ of %q and %q: %d", p, q, e)
		}
		if found && len(s) < 4 {
			some++
		}
		for _, other := range strs {
			v, _ := veil.Match(p, other)
			w, _ := veil.Match(q, other)
			if found && s == other {
				if v == w {
					t.Errorf("P12: Differ of %q and %q: %q, which does not part them", p, q, s)
				}
				break
			}
			if v != w {
				t.Errorf("P12: Differ of %q and %q: %q, %v, but %q parts them", p, q, s, found, other)
				break
			}
		}
	}
	if some < 50 {
		t.Errorf("only %d pairs of patterns part early", some)
	}
}

func TestDifferByModel(t *testing.T) {
	r := rand.New(rand.NewSource(24))
	met := tally{}
	for range 1000 {
		x, y := anySmallImage(r, 1+r.Intn(4), 1+r.Intn(12)), anySmallImage(r, 1+r.Intn(4), 1+r.Intn(6))
		if r.Intn(3) == 0 {
			tables := tablesOf(x)
			y = imageOf(r.Intn(17), anyFormulaWithin(r, len(tables), 1+r.Intn(8)), tables...)
		}
		want, found, e := differ(x, y)
		checkDiffer(t, x+y, x, y, want, found, e)
		met.add(want, found, e)
	}
	met.check(t)
}
