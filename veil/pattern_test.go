package veil_test

import (
	"math/rand"
	"strings"
	"testing"

	"veil/api"
	"veil/veil"
)

type patternCase struct {
	p string
	e api.Errno
	n int
}

func checkPatterns(t *testing.T, cases []patternCase) {
	t.Helper()
	for _, c := range cases {
		if e, n := veil.Pattern(c.p); e != c.e || n != c.n {
			t.Errorf("P3: Pattern(%.80q) = %d, %d, want %d, %d", c.p, e, n, c.e, c.n)
		}
	}
}

func TestPatternWeights(t *testing.T) {
	checkPatterns(t, []patternCase{
		{"a|b*", api.OK, 2},
		{"", api.OK, 1},
		{"()", api.OK, 1},
		{"|", api.OK, 2},
		{"(|)|", api.OK, 3},
		{"(a|){3,4}", api.OK, 8},
		{"a{9,0}", api.OK, 1},
		{"a{9,3}", api.OK, 3},
		{"(abc){0,1}", api.OK, 3},
		{"a{0,0}{0,9}", api.OK, 9},
		{"ab{0,2}c", api.OK, 4},
		{"[a-z0-9]x", api.OK, 2},
		{`\00\ff\.`, api.OK, 3},
		{`[\00\ff\.]`, api.OK, 1},
		{"a*+?", api.OK, 1},
		{"^-,", api.OK, 3},
	})
}

func TestPatternBounds(t *testing.T) {
	checkPatterns(t, []patternCase{
		{strings.Repeat("a", 12), api.OK, 12},
		{strings.Repeat("a", 13), api.ErrBig, 0},
		{".{7,7}{2,2}", api.ErrBig, 0},
		{"(ab){0,6}", api.OK, 12},
		{"(ab){0,7}", api.ErrBig, 0},
		{"a" + strings.Repeat("{9,9}", 11), api.ErrBig, 0},
		{"(a" + strings.Repeat("{9,9}", 10) + "){0,0}", api.OK, 1},
		{"(a" + strings.Repeat("{9,9}", 10) + "){9,1}", api.ErrBig, 0},
		{"a" + strings.Repeat("*", 59), api.OK, 1},
		{"a" + strings.Repeat("*", 60), api.ErrLong, 0},
		{strings.Repeat("(", 29) + "a" + strings.Repeat(")", 29), api.OK, 1},
		{strings.Repeat("(", 30) + strings.Repeat(")", 30), api.OK, 1},
		{strings.Repeat("a", 60), api.ErrBig, 0},
		{strings.Repeat("a", 61), api.ErrLong, 0},
		{strings.Repeat("*", 61), api.ErrLong, 0},
		{strings.Repeat("(", 5000000), api.ErrLong, 0},
	})
}

func TestPatternErrorsBeforeWeight(t *testing.T) {
	checkPatterns(t, []patternCase{
		{strings.Repeat("a", 13) + ")", api.ErrPattern, 13},
		{strings.Repeat("a", 59) + "(", api.ErrPattern, 60},
		{strings.Repeat("(", 60), api.ErrPattern, 60},
		{"*" + strings.Repeat("a", 59), api.ErrPattern, 0},
	})
}

func TestPatternPlaces(t *testing.T) {
	checkPatterns(t, []patternCase{
		{"a{2,13}", api.ErrPattern, 5},
		{"*a", api.ErrPattern, 0},
		{"(a", api.ErrPattern, 2},
		{"[a-]", api.ErrPattern, 3},
		{"a)", api.ErrPattern, 1},
		{`\4`, api.ErrPattern, 2},
		{`\4A`, api.ErrPattern, 2},
		{`\A1`, api.ErrPattern, 1},
		{`a\`, api.ErrPattern, 2},
		{"a|+", api.ErrPattern, 2},
		{"(?)", api.ErrPattern, 1},
		{"a{", api.ErrPattern, 2},
		{"a{,2}", api.ErrPattern, 2},
		{"a{1}", api.ErrPattern, 3},
		{"a{1,}", api.ErrPattern, 4},
		{"a{1,2", api.ErrPattern, 5},
		{"}", api.ErrPattern, 0},
		{"]", api.ErrPattern, 0},
		{"[]", api.ErrPattern, 1},
		{"[^]", api.ErrPattern, 2},
		{"[^^]", api.ErrPattern, 2},
		{"[a^]", api.ErrPattern, 2},
		{"[-a]", api.ErrPattern, 1},
		{"[a-b-c]", api.ErrPattern, 4},
		{"[a--]", api.ErrPattern, 3},
		{"[[]", api.ErrPattern, 1},
		{"[a", api.ErrPattern, 2},
		{"[a-", api.ErrPattern, 3},
		{"[a-b", api.ErrPattern, 4},
		{`[\`, api.ErrPattern, 2},
		{`[\q]`, api.ErrPattern, 2},
		{"[\n]", api.ErrPattern, 1},
		{"((a)", api.ErrPattern, 4},
		{"(a))(", api.ErrPattern, 3},
		{"(]", api.ErrPattern, 1},
	})
}

// Every byte where a plain byte, a set's byte and an escape may stand.
func TestPatternEveryByte(t *testing.T) {
	for b := range 256 {
		one := string([]byte{byte(b)})
		printable := b >= 32 && b <= 126
		plain := printable && !strings.Contains(`|*+?{}()[].\`, one)
		wantPlace(t, "a"+one+"a", plain || one == "|" || one == "*" || one == "+" || one == "?" || one == ".", 1, one, `\({[`)
		inSet := printable && !strings.Contains(`[]\-^`, one)
		wantPlace(t, "[a"+one+"]", inSet, 2, one, `\]-`)
		wantPlace(t, `\`+one, strings.Contains(`|*+?{}()[].\-^`, one), 1, one, "0123456789abcdef")
		wantPlace(t, `\0`+one, strings.Contains("0123456789abcdef", one), 2, one, "")
		wantPlace(t, "a{"+one+",5}", strings.Contains("0123456789", one), 2, one, "")
		wantPlace(t, "a{0,"+one+"}", strings.Contains("0123456789", one), 4, one, "")
	}
}

// wantPlace passes over the bytes of but: after them more must follow.
func wantPlace(t *testing.T, p string, right bool, place int, one, but string) {
	t.Helper()
	if strings.Contains(but, one) {
		return
	}
	e, n := veil.Pattern(p)
	if right && e != api.OK {
		t.Errorf("P3: Pattern(%q) = %d, %d, want OK", p, e, n)
	}
	if !right && (e != api.ErrPattern || n != place) {
		t.Errorf("P3: Pattern(%q) = %d, %d, want %d, %d", p, e, n, api.ErrPattern, place)
	}
}

func checkByModel(t *testing.T, known models, p string) {
	t.Helper()
	e, n := veil.Pattern(p)
	m := known.pattern(p)
	want, number := api.OK, 0
	switch {
	case len(p) > api.MaxPattern:
		want = api.ErrLong
	case m == nil:
		want, number = api.ErrPattern, known.place(p)
	case m.weight > api.MaxWeight:
		want = api.ErrBig
	default:
		number = m.weight
	}
	if e != want || n != number {
		t.Errorf("P3: Pattern(%q) = %d, %d, want %d, %d", p, e, n, want, number)
	}
}

func TestPatternEveryShortText(t *testing.T) {
	known := models{}
	for _, p := range allStrings("a0,-^|*{}()[].\\\n", 4) {
		checkByModel(t, known, p)
	}
}

func TestPatternSpoiledTexts(t *testing.T) {
	r := rand.New(rand.NewSource(1))
	for range 1000 {
		known := models{}
		p := anyPattern(r, 1+r.Intn(5))
		if len(p) > 24 {
			continue
		}
		checkByModel(t, known, p)
		p = spoiled(r, p)
		checkByModel(t, known, p)
		checkByModel(t, known, spoiled(r, p))
	}
}
