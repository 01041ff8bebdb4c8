package veil_test

import (
	"math"
	"math/rand"
	"strings"
	"testing"

	"veil/api"
	"veil/veil"
)

// anyTable is the table of .*, starTable that of a*.
func anyTable() string  { return tableText(1, nil, 1, 0) }
func starTable() string { return tableText(2, []string{"a"}, 1, 0, 1, 0, 1, 1) }

func TestCompileImages(t *testing.T) {
	all, star := anyTable(), starTable()
	deep := strings.Repeat("1(", 13) + "a" + strings.Repeat(")", 13)
	for _, c := range []struct {
		policy string
		n      int
		want   string
	}{
		{"a*\n!a", 3, "VP\x03\x01\x02!a" + star},
		{"a*\na", 0, "VP\x00\x01\x01a" + star},
		{"a*\na", 16, "VP\x10\x01\x01a" + star},
		{"\na", 5, "VP\x05\x01\x01a" + tableText(2, nil, 1, 0, 1, 1)},
		{"a*\n.*\na", 1, "VP\x01\x02\x01a" + star + all},
		{".*\na*\nb", 1, "VP\x01\x02\x01b" + all + star},
		{".*\na*\n.*\n!c", 1, "VP\x01\x03\x02!c" + all + star + all},
		{"a*\n.*\n.*\na*\n2(abcd)", 7, "VP\x07\x04\x072(abcd)" + star + all + all + star},
		{".*\n0(a)", 1, "VP\x01\x01\x040(a)" + all},
		{".*\n9(a!!a0(a)1(aa)!2(a))", 1, "VP\x01\x01\x159(a!!a0(a)1(aa)!2(a))" + all},
		{".*\n" + deep, 1, "VP\x01\x01\x28" + deep + all},
		{".*\n" + strings.Repeat("!", 39) + "a", 1, "VP\x01\x01\x28" + strings.Repeat("!", 39) + "a" + all},
		{".*\n5(" + strings.Repeat("a", 37) + ")", 1, "VP\x01\x01\x285(" + strings.Repeat("a", 37) + ")" + all},
	} {
		checkCompile(t, c.policy, c.n, c.want, api.OK, 0)
	}
}

func checkCompile(t *testing.T, policy string, n int, want string, e api.Errno, number int) {
	t.Helper()
	x, f, m := veil.Compile(policy, n)
	if x != want || f != e || m != number {
		t.Errorf("P7: Compile(%.300q, %d) = %q, %d, %d, want %q, %d, %d", policy, n, x, f, m, want, e, number)
	}
	if e == api.OK && veil.Open(x) != api.OK {
		t.Errorf("P6: Open of what Compile(%q, %d) made: %d", policy, n, veil.Open(x))
	}
}

// The longest policy that may be: every rule and the formula at its bound.
func TestCompileLongest(t *testing.T) {
	rule := "a" + strings.Repeat("*", 59)
	rules := strings.Repeat(rule+"\n", 4)
	formula := strings.Repeat("!", 39) + "d"
	image := "VP\x10\x04\x28" + formula + strings.Repeat(starTable(), 4)
	checkCompile(t, rules+formula, 16, image, api.OK, 0)
	checkCompile(t, rules+"!"+formula, 16, "", api.ErrLong, 0)
	checkCompile(t, rules+"*", 16, "", api.ErrForm, 0)
	checkCompile(t, "*"+rules+formula, 16, "", api.ErrLong, 0)
}

func TestCompileErrors(t *testing.T) {
	long, wide, big := strings.Repeat("a", 61), strings.Repeat("a", 13), ".*a.{9,9}"
	for _, c := range []struct {
		policy string
		n      int
		e      api.Errno
		number int
	}{
		// Each policy has the later errors too.
		{strings.Repeat("\n", 285), -1, api.ErrLong, 0},
		{strings.Repeat("a", 285), 17, api.ErrLong, 0},
		{strings.Repeat("a\n", 4000000), 3, api.ErrLong, 0},
		{strings.Repeat("\n", 284), -1, api.ErrArg, 0},
		{"*", 17, api.ErrArg, 0},
		{"a\na", math.MaxInt, api.ErrArg, 0},
		{"a\na", math.MinInt, api.ErrArg, 0},
		{"a\na", 1 << 32, api.ErrArg, 0},
		{"a\na", 256, api.ErrArg, 0},
		{"", 0, api.ErrPolicy, 0},
		{"a", 3, api.ErrPolicy, 0},
		{"*", 16, api.ErrPolicy, 0},
		{strings.Repeat("a", 284), 16, api.ErrPolicy, 0},
		{"a\ra", 3, api.ErrPolicy, 0},
		{"*\n\n\n\n\n*", 3, api.ErrPolicy, 0},
		{"a\na\na\na\na\na", 3, api.ErrPolicy, 0},
		{strings.Repeat("\n", 284), 3, api.ErrPolicy, 0},
		{"*\n(\n!", 3, api.ErrPattern, 0},
		{"a*\na*b)\na", 3, api.ErrPattern, 1},
		{"a\nb\nc\n*\n" + long, 3, api.ErrPattern, 3},
		{"a\n(\n" + long + "\nb", 3, api.ErrPattern, 1},
		{"a\r\na", 3, api.ErrPattern, 0},
		{"a\n" + long + "\n*\na", 3, api.ErrLong, 1},
		{strings.Repeat("*", 61) + "\na", 3, api.ErrLong, 0},
		{wide + "\n*\na", 3, api.ErrBig, 0},
		{"a\n" + big + "\n*\nx", 3, api.ErrBig, 1},
		{"a\nb\n" + wide + "\nx", 3, api.ErrBig, 2},
		{"a\nb\nc\n[q-y][i-py][e-hm-pu-x][cdghklopstwx][bdfhjlnprtvx]\nx", 3, api.ErrBig, 3},
		{"*\n" + long, 3, api.ErrPattern, 0},
	} {
		checkCompile(t, c.policy, c.n, "", c.e, c.number)
	}
}

func TestCompilePlaces(t *testing.T) {
	marks := func(n int) string { return strings.Repeat("!", n) }
	for _, c := range []struct {
		formula string
		place   int
	}{
		{"", 0}, {"!", 1}, {"1", 1}, {"1(", 2}, {"1(a", 3}, {"1(1(a)", 6}, {"1(a!", 4},
		{"b", 0}, {"!b", 1}, {"1(ab)", 3}, {"A", 0}, {"`", 0}, {"e", 0},
		{"aa", 1}, {"a!", 1}, {"a)", 1}, {"!a!a", 2}, {"1(a)a", 4}, {"1(a))", 4}, {"1(a)(a)", 4},
		{"1()", 2}, {"1(!)", 3}, {"1(a1)", 4}, {"1(1())", 4}, {"1(a(a))", 3}, {"1(a,a)", 3}, {"1(a a)", 3},
		{"(a)", 0}, {")", 0}, {"1a", 1}, {"1)", 1}, {"1!a", 1}, {"12(a)", 1}, {"-1(a)", 0}, {" a", 0}, {"a ", 1}, {"/(a)", 0}, {":(a)", 0},
		// Some formula begins with these, though none that may be.
		{marks(40), 40}, {strings.Repeat("1(", 20), 40}, {strings.Repeat("1(", 19) + "aa", 40}, {marks(39) + "1", 40},
		{marks(39) + ")", 39}, {marks(38) + "aa", 39}, {")" + marks(39), 0},
		// Too long: whatever stands there.
		{marks(40) + "a", 40}, {marks(41), 40}, {")" + marks(40), 40}, {"b" + strings.Repeat("a", 99), 40}, {strings.Repeat("a", 281), 40},
	} {
		checkCompile(t, "a*\n"+c.formula, 3, "", api.ErrForm, c.place)
	}
}

// Every byte where a formula may begin, over every number of rules.
func TestCompileEveryByte(t *testing.T) {
	for rules := 1; rules <= 4; rules++ {
		head := strings.Repeat("\n", rules)
		tables := strings.Repeat(tableText(2, nil, 1, 0, 1, 1), rules)
		for b := range 256 {
			one := string([]byte{byte(b)})
			switch {
			case b == '\n':
			case b >= 'a' && b < 'a'+rules:
				checkCompile(t, head+one, 9, "VP\x09"+string([]byte{byte(rules), 1})+one+tables, api.OK, 0)
				checkCompile(t, head+"!"+one, 9, "VP\x09"+string([]byte{byte(rules), 2})+"!"+one+tables, api.OK, 0)
			case b == '!' || b >= '0' && b <= '9':
				checkCompile(t, head+one, 9, "", api.ErrForm, 1)
				checkCompile(t, head+"2(a"+one, 9, "", api.ErrForm, 4)
			default:
				checkCompile(t, head+one, 9, "", api.ErrForm, 0)
				checkCompile(t, head+"2("+one, 9, "", api.ErrForm, 2)
			}
		}
	}
}

func TestCompileEveryShortFormula(t *testing.T) {
	for _, formula := range allStrings("ac0!()", 5) {
		for _, policy := range []string{"\n" + formula, "\n\n\n" + formula} {
			want, e, number := compiled(policy, 4)
			checkCompile(t, policy, 4, want, e, number)
		}
	}
}

func TestCompileSpoiledFormulas(t *testing.T) {
	r := rand.New(rand.NewSource(7))
	for range 4000 {
		rules := 1 + r.Intn(4)
		formula := anyFormula(r, rules, 1+r.Intn(28))
		for range 3 {
			policy := strings.Repeat(".*\n", rules) + formula
			want, e, number := compiled(policy, 4)
			checkCompile(t, policy, 4, want, e, number)
			formula = spoiledFormula(r, formula)
		}
	}
}

func TestCompileByModel(t *testing.T) {
	r := rand.New(rand.NewSource(8))
	for range 2000 {
		policy, n := anyPolicy(r), r.Intn(17)
		if r.Intn(20) == 0 {
			n = r.Intn(80) - 40
		}
		want, e, number := compiled(policy, n)
		checkCompile(t, policy, n, want, e, number)
	}
}
