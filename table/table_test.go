package table

import (
	"testing"

	"veil/api"
)

// What is asked of a table is what its bytes say.
func TestTableTellsItsBytes(t *testing.T) {
	x, e := OfPattern("(a|b{2,3})*c")
	if e != api.OK {
		t.Fatalf("OfPattern: %d", e)
	}
	text := x.Bytes()
	states, classes := int(text[0]), int(text[1])
	if x.States() != states || x.Classes() != classes {
		t.Errorf("%d states, %d classes, want %d, %d", x.States(), x.Classes(), states, classes)
	}
	for b := range 256 {
		if c := x.Class(byte(b)); c != int(text[2+b]) {
			t.Errorf("byte %d is of class %d, want %d", b, c, text[2+b])
		}
	}
	for s := range states {
		if x.Granted(s) != (text[258+s] == 1) {
			t.Errorf("state %d: granted %v", s, x.Granted(s))
		}
		for c := range classes {
			if n := x.Next(s, c); n != int(text[258+states+s*classes+c]) {
				t.Errorf("state %d, class %d: leads to %d", s, c, n)
			}
		}
	}
}

// States and classes that there are not do no harm.
func TestTableWithoutState(t *testing.T) {
	x, _ := OfPattern("a*")
	for _, n := range []int{-1 << 63, -1, 2, 3, 1<<63 - 1} {
		if x.Granted(n) || x.Next(n, 0) != 0 || x.Next(0, n) != 0 || x.Next(n, n) != 0 {
			t.Errorf("state and class %d: %v, %d, %d", n, x.Granted(n), x.Next(n, 0), x.Next(0, n))
		}
	}
}
