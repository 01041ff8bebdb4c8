package policies

import "testing"

func TestTruth(t *testing.T) {
	for _, c := range []struct {
		formula string
		truths  []bool
		want    bool
	}{
		{"a", []bool{true}, true},
		{"!b", []bool{true, false}, true},
		{"2(a!b1(cd))", []bool{false, false, false, true}, true},
		{"3(a!b1(cd))", []bool{false, false, false, true}, false},
		{"0(a)", []bool{false}, true},
	} {
		if v := isTrue(c.formula, c.truths); v != c.want {
			t.Errorf("isTrue(%q, %v) = %v", c.formula, c.truths, v)
		}
	}
}

// Texts that are no formulas, and letters without a truth, do no harm.
func TestTruthEnds(t *testing.T) {
	bytes := "a`e!1()\x00\xff"
	texts := []string{""}
	for i := 0; i < 7000; i++ {
		for k := range len(bytes) {
			texts = append(texts, texts[i]+bytes[k:k+1])
		}
	}
	for _, text := range texts {
		isTrue(text, nil)
		isTrue(text, []bool{true})
	}
}

// A rule that there is not has an empty table.
func TestImageWithoutRule(t *testing.T) {
	image, _, _ := Compile("a*\n.*\n!b", 3)
	for _, rule := range []int{-1, 2, 3, 1 << 62} {
		if table := image.Table(rule); table.States() != 0 || table.Classes() != 0 {
			t.Errorf("Table(%d) has %d states", rule, table.States())
		}
	}
	if image.Most() != 3 || image.Rules() != 2 {
		t.Errorf("%d bytes, %d rules", image.Most(), image.Rules())
	}
}
