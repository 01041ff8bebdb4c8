package veil_test

import (
	"math/rand"
	"strings"
	"testing"

	"veil/api"
	"veil/veil"
)

func anyText(r *rand.Rand, length int) string {
	b := make([]byte, length)
	for i := range b {
		b[i] = byte(r.Intn(256))
		if r.Intn(8) > 0 {
			b[i] = `ab019,-^|*+?{}()[].\`[r.Intn(20)]
		}
	}
	return string(b)
}

// P1: with an error every other result is nought, but for a place that lies in
// the text or at its end.
func TestEveryTextEnds(t *testing.T) {
	r := rand.New(rand.NewSource(3))
	for range 50000 {
		p, s := anyText(r, r.Intn(66)), anyText(r, r.Intn(20))
		e, n := veil.Pattern(p)
		switch e {
		case api.OK:
			if n < 1 || n > api.MaxWeight {
				t.Errorf("P1: Pattern(%q) = %d, %d", p, e, n)
			}
		case api.ErrPattern:
			if n < 0 || n > len(p) {
				t.Errorf("P1: Pattern(%q) = %d, %d", p, e, n)
			}
		default:
			if n != 0 || e != api.ErrLong && e != api.ErrBig {
				t.Errorf("P1: Pattern(%q) = %d, %d", p, e, n)
			}
		}
		want := e
		if len(s) > api.MaxSecret {
			want = api.ErrLong
		}
		if v, f := veil.Match(p, s); f != want || v && f != api.OK {
			t.Errorf("P1: Match(%q, %q) = %v, %d, want error %d", p, s, v, f, want)
		}
		if table, f := veil.Table(p); f != e && (e != api.OK || f != api.ErrBig) || (f == api.OK) != (table != "") {
			t.Errorf("P1: Table(%q) = %q, %d beside Pattern's %d", p, table, f, e)
		}
	}
}

// P1: with an error there is no image, and the number is that of a rule or a
// place in the formula, if P7 names one, else 0.
func TestEveryPolicyEnds(t *testing.T) {
	r := rand.New(rand.NewSource(10))
	for range 20000 {
		policy := strings.Repeat(anyText(r, r.Intn(4))+"\n", r.Intn(6)) + anyText(r, r.Intn(45))
		if r.Intn(2) == 0 {
			policy = anyText(r, r.Intn(300))
		}
		n := r.Intn(20) - 2
		x, e, number := veil.Compile(policy, n)
		most := 0
		switch e {
		case api.ErrPattern, api.ErrBig:
			most = api.MaxRules - 1
		case api.ErrLong:
			if len(policy) <= api.MaxPolicy {
				most = api.MaxRules - 1
			}
		case api.ErrForm:
			most = min(api.MaxFormula, len(policy)-strings.LastIndex(policy, "\n")-1)
		}
		if number < 0 || number > most || (e == api.OK) != (x != "") {
			t.Errorf("P1: Compile(%q, %d) = %q, %d, %d", policy, n, x, e, number)
		}
		if f := veil.Open(x); (f == api.OK) != (e == api.OK) {
			t.Errorf("P1: Open of what Compile(%q, %d) answered: %d", policy, n, f)
		}
		if f := veil.Open("VP" + policy); f != api.ErrImage {
			t.Errorf("P1: Open(%q) = %d", "VP"+policy, f)
		}
	}
}

// P1: patterns on which a careless program would not end.
func TestDeepTextsEnd(t *testing.T) {
	s := strings.Repeat("a", 15) + "b"
	for _, p := range []string{
		"a" + strings.Repeat("*", 59),
		"a" + strings.Repeat("*?+", 19),
		"a" + strings.Repeat("{0,1}", 11),
		"(a" + strings.Repeat("{9,9}", 10) + "){0,0}",
		"(a" + strings.Repeat("{9,9}", 10) + "){1,0}",
		"(" + strings.Repeat("(a|", 10) + "a" + strings.Repeat(")*", 10) + ")+",
		"(a*a*a*a*a*a*a*a*a*a*)*",
		"(((((a?){2,2})*){2,2})*{0,1})*",
		strings.Repeat("(", 30) + strings.Repeat(")", 30),
	} {
		if e, _ := veil.Pattern(p); e != api.OK {
			t.Errorf("P1: Pattern(%q) = %d", p, e)
		}
		if v, e := veil.Match(p, s); v || e != api.OK {
			t.Errorf("P1: Match(%q, %q) = %v, %d", p, s, v, e)
		}
		if table, e := veil.Table(p); table == "" || e != api.OK {
			t.Errorf("P1: Table(%q) = %q, %d", p, table, e)
		}
	}
	huge := strings.Repeat("(", 50000000)
	if e, n := veil.Pattern(huge); e != api.ErrLong || n != 0 {
		t.Errorf("P1: Pattern of a huge text = %d, %d", e, n)
	}
	if v, e := veil.Match(huge, huge); v || e != api.ErrLong {
		t.Errorf("P1: Match of huge texts = %v, %d", v, e)
	}
	if table, e := veil.Table(huge); table != "" || e != api.ErrLong {
		t.Errorf("P1: Table of a huge text = %q, %d", table, e)
	}
}

// P2: what was called before changes no answer.
func TestNothingIsKept(t *testing.T) {
	type answer struct {
		e, f, g api.Errno
		n       int
		v       bool
		table   string
	}
	ask := func(p, s string) answer {
		e, n := veil.Pattern(p)
		v, f := veil.Match(p, s)
		table, g := veil.Table(p)
		return answer{e, f, g, n, v, table}
	}
	r := rand.New(rand.NewSource(4))
	texts, strs, first := []string{}, []string{}, []answer{}
	for range 500 {
		p, s := anyPattern(r, 1+r.Intn(6)), anyOf(r, allStrings("ab", 4)...)
		if r.Intn(3) == 0 {
			p = spoiled(r, p)
		}
		texts, strs, first = append(texts, p), append(strs, s), append(first, ask(p, s))
	}
	for range 5000 {
		i := r.Intn(len(texts))
		if again := ask(texts[i], strs[i]); again != first[i] {
			t.Errorf("P2: Pattern, Match and Table of %q, %q answered %v, then %v", texts[i], strs[i], first[i], again)
		}
	}
}

// P2: nor does it change those of Compile and Open.
func TestNoPolicyIsKept(t *testing.T) {
	type answer struct {
		image  string
		e, f   api.Errno
		number int
	}
	ask := func(policy string, n int) answer {
		x, e, number := veil.Compile(policy, n)
		return answer{x, e, veil.Open(x), number}
	}
	r := rand.New(rand.NewSource(11))
	texts, first := []string{}, []answer{}
	for i := range 300 {
		texts = append(texts, anyPolicy(r))
		first = append(first, ask(texts[i], i%18))
	}
	for range 3000 {
		i := r.Intn(len(texts))
		if again := ask(texts[i], i%18); again != first[i] {
			t.Errorf("P2: Compile and Open of %q, %d answered %v, then %v", texts[i], i%18, first[i], again)
		}
	}
}

// P1: no text lets Witness or Differ answer a string beside an error or beside
// false.
func TestEveryWitnessEnds(t *testing.T) {
	r := rand.New(rand.NewSource(25))
	for range 1000 {
		x := anyOf(r, "", "VP", "VP\x10\x01\x01a") + anyText(r, r.Intn(400))
		y := x
		if r.Intn(2) == 0 {
			x = anyImage(r)
		}
		if r.Intn(3) == 0 {
			y = anyImage(r)
		}
		e, f := veil.Open(x), veil.Open(y)
		s, found, g := veil.Witness(x)
		if g != e && (e != api.OK || g != api.ErrBig) || s != "" && !found || found && g != api.OK || len(s) > api.MaxSecret {
			t.Errorf("P1: Witness(%.60q ..): %q, %v, %d beside Open's %d", x, s, found, g, e)
		}
		want := max(e, f)
		s, found, g = veil.Differ(x, y)
		if g != want && (want != api.OK || g != api.ErrBig) || s != "" && !found || found && g != api.OK {
			t.Errorf("P1: Differ(%.60q .., %.60q ..): %q, %v, %d beside Open's %d and %d", x, y, s, found, g, e, f)
		}
	}
}

// P2: what was called before changes no answer of Witness and Differ.
func TestNoTupleIsKept(t *testing.T) {
	type answer struct {
		s, d string
		v, w bool
		e, f api.Errno
	}
	ask := func(x, y string) answer {
		s, v, e := veil.Witness(x)
		d, w, f := veil.Differ(x, y)
		return answer{s, d, v, w, e, f}
	}
	r := rand.New(rand.NewSource(26))
	images, first := []string{"", "VP"}, []answer{}
	for range 200 {
		images = append(images, anySmallImage(r, 1+r.Intn(4), 1+r.Intn(8)))
	}
	for i, x := range images {
		first = append(first, ask(x, images[len(images)-1-i]))
	}
	for range 1000 {
		i := r.Intn(len(images))
		if again := ask(images[i], images[len(images)-1-i]); again != first[i] {
			t.Errorf("P2: Witness and Differ answered %v, then %v", first[i], again)
		}
	}
}
