package octet

import (
	"strings"
	"testing"
)

func TestKinds(t *testing.T) {
	const upper, lower, digits = "ABCDEFGHIJKLMNOPQRSTUVWXYZ", "abcdefghijklmnopqrstuvwxyz", "0123456789"
	for i := range 256 {
		c := byte(i)
		in := func(s string) bool { return strings.IndexByte(s, c) >= 0 }
		if Upper(c) != in(upper) || Lower(c) != in(lower) || Letter(c) != in(upper+lower) || Digit(c) != in(digits) {
			t.Errorf("letters and digits: %d", c)
		}
		if up := Up(c); up != c && !in(lower) || in(lower) && lower[strings.IndexByte(upper, up)] != c {
			t.Errorf("Up(%d): %d", c, up)
		}
		if down := Down(c); down != c && !in(upper) || in(upper) && upper[strings.IndexByte(lower, down)] != c {
			t.Errorf("Down(%d): %d", c, down)
		}
		name := in(upper + lower + digits + "_")
		if Name(c) != name || Word(c) != (name || i >= 128) || Continues(c) != (i >= 128 && i < 192) {
			t.Errorf("words: %d", c)
		}
	}
}

func TestEach(t *testing.T) {
	if Each("", Up) != "" || Each("aZ1\x80", Up) != "AZ1\x80" || Each("aZ1\x80", Down) != "az1\x80" {
		t.Error("Each")
	}
}
