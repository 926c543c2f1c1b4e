package lead

import (
	"testing"

	"gimlet/api"
)

func TestP24_1Adapt(t *testing.T) {
	for _, c := range [][4]string{
		{"a\n\tb\tc", "  ", ". ", "a\n  . b\tc"},
		{"a\n\tb\tc", "  ", "", "a\n  \tb\tc"},
		{"\ta\n\t\tb\n \tc\n\n\t", "", "..", "\ta\n....b\n \tc\n\n.."},
		{"\ta\n\t\tb\n \tc\n\n\t", "-", "..", "\ta\n-....b\n- \tc\n-\n-.."},
		{"", "  ", "..", ""},
		{"\n", "\t", "..", "\n\t"},
		{"\n\t", "\t", "..", "\n\t.."},
		{"\t\t", "-", ".", "\t\t"},
		{"a\r\n\tb", "-", "\n\t", "a\r\n-\n\tb"},
		{"\n\tx\t\n", "\n\t", ".", "\n\n\t.x\t\n\n\t"},
	} {
		if got := Adapt(c[0], c[1], c[2]); got != c[3] {
			t.Errorf("Adapt(%q, %q, %q): %q, not %q", c[0], c[1], c[2], got, c[3])
		}
	}
}

func TestP24_1Unit(t *testing.T) {
	if Unit() != "" || Unit(api.Pair{Name: "INDEN", Value: "x"}) != "" {
		t.Error("no INDENT")
	}
	if Unit(api.Pair{Name: "A"}, api.Pair{Name: "INDENT", Value: "  "}, api.Pair{Name: "INDENT", Value: "x"}) != "  " {
		t.Error("Unit is the first INDENT")
	}
}
