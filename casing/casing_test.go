package casing

import (
	"math"
	"testing"

	"gimlet/api"
)

func TestP17_1Turn(t *testing.T) {
	for _, c := range []struct {
		s                            string
		up, down, cap, camel, pascal string
	}{
		{"foo-Bar_x", "FOO-BAR_X", "foo-bar_x", "Foo-Bar_x", "fooBarX", "FooBarX"},
		{"Foo bar", "FOO BAR", "foo bar", "Foo bar", "fooBar", "FooBar"},
		{"", "", "", "", "", ""},
		{"--", "--", "--", "--", "", ""},
		{"@[`{", "@[`{", "@[`{", "@[`{", "", ""},
		{"-a b", "-A B", "-a b", "-a b", "aB", "AB"},
		{"éa éB", "éA éB", "éa éb", "éa éB", "éaéB", "éaéB"},
		{"9x x9Y", "9X X9Y", "9x x9y", "9x x9Y", "9xX9Y", "9xX9Y"},
		{"ABC DEF", "ABC DEF", "abc def", "ABC DEF", "aBCDEF", "ABCDEF"},
		{"z\x80z\nq", "Z\x80Z\nQ", "z\x80z\nq", "Z\x80z\nq", "z\x80zQ", "Z\x80zQ"},
		{"a__b", "A__B", "a__b", "A__b", "aB", "AB"},
	} {
		for way, want := range map[int]string{api.Up: c.up, api.Down: c.down, api.Cap: c.cap, api.Camel: c.camel, api.Pascal: c.pascal} {
			if got, e := Turn(c.s, way); got != want || e != api.OK {
				t.Errorf("Turn(%q, %s): %q, not %q", c.s, Name(way), got, want)
			}
		}
	}
	for _, way := range []int{0, 6, -1, math.MinInt, math.MaxInt} {
		if got, e := Turn("abc", way); got != "" || e != api.ErrArg {
			t.Errorf("Turn by %d: %q, %d", way, got, e)
		}
	}
}

func TestP17_2NameWay(t *testing.T) {
	for way, want := range map[int]string{
		api.Up: "upcase", api.Down: "downcase", api.Cap: "capitalize", api.Camel: "camelcase", api.Pascal: "pascalcase",
	} {
		if Name(way) != want || Way(want) != way {
			t.Errorf("%d: %q", way, Name(way))
		}
	}
	for _, way := range []int{0, 6, -1, math.MaxInt} {
		if Name(way) != "" {
			t.Errorf("Name(%d): %q", way, Name(way))
		}
	}
	for _, name := range []string{"", "title", "Upcase", "upcase ", "upcas"} {
		if Way(name) != 0 {
			t.Errorf("Way(%q): %d", name, Way(name))
		}
	}
}
