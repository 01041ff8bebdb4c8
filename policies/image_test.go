package policies

import (
	"strings"
	"testing"

	"veil/api"
)

// What is read from an image writes the same image.
func TestImageIsWrittenAsRead(t *testing.T) {
	image, e, _ := Compile("a*\n.*[0-9].*\n.{3,9}\nab|ba\n2(a!b3(cdd))", 11)
	if e != api.OK {
		t.Fatalf("Compile: %d", e)
	}
	order := "\x01" + strings.Repeat("\x00", 255)
	for _, text := range []string{
		image.Bytes(),
		"VP\x00\x01\x01a\x02\x02" + order + "\x01\x00\x00\x01\x01\x01",
		"VP\x10\x02\x03!!b\x02\x01" + strings.Repeat("\x00", 256) + "\x01\x01\x01\x00" + "\x01\x02" + order + "\x00\x00\x00",
	} {
		m, e := Open(text)
		if again := m.Bytes(); e != api.OK || again != text {
			t.Errorf("Open(%q) = %d and writes %q", text, e, again)
		}
	}
}

// P1: beside an error there is nothing.
func TestNoImageBesideAnError(t *testing.T) {
	image, _, _ := Compile("a*\n.*\n!b", 3)
	right := image.Bytes()
	for _, text := range []string{"", "VP", right[:5], right[:7], right[:len(right)-1], right + "\x00"} {
		m, e := Open(text)
		if e != api.ErrImage || m.most != 0 || m.formula != "" || m.tables != nil {
			t.Errorf("Open(%q) = %v, %d", text, m, e)
		}
	}
	for _, text := range []string{"a", "a\n*\na", "a\na\nc"} {
		m, e, _ := Compile(text, 3)
		if e == api.OK || m.most != 0 || m.formula != "" || m.tables != nil {
			t.Errorf("Compile(%q) = %v, %d", text, m, e)
		}
	}
}
