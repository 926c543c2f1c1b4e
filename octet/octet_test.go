package octet

import (
	"strings"
	"testing"
)

func TestKinds(t *testing.T) {
	const upper, lower, digits = "ABCDEFGHIJKLMNOPQRSTUVWXYZ", "abcdefghijklmnopqrstuvwxyz", "0123456789"
	for i := range 256 {
		c := byte(i)
		in := func(s string) bool { return strings.IndexByte(s, c) >= 0 }
		if Upper(c) != in(upper) || Lower(c) != in(lower) || Letter(c) != in(upper+lower) || Digit(c) != in(digits) {
			t.Errorf("letters and digits: %d", c)
		}
		name := in(upper + lower + digits + "_")
		if Name(c) != name || Word(c) != (name || i >= 128) || Continues(c) != (i >= 128 && i < 192) {
			t.Errorf("words: %d", c)
		}
	}
}
