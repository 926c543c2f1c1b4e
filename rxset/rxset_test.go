package rxset

import (
	"math/rand"
	"slices"
	"testing"

	"gimlet/api"
)

func row(from, to string) api.Row { return api.Row{From: from, To: to} }

func TestP12_1May(t *testing.T) {
	for _, rows := range [][]api.Row{
		nil, {row("a", "a")}, {row("a", "b"), row("c", "d")}, {row("\n", "é"), row("日", "\xff")}, {row("a", "a\x80"), row("b", "b")},
	} {
		if !May(rows...) {
			t.Errorf("%q", rows)
		}
	}
	for _, rows := range [][]api.Row{
		{row("a", "b"), row("b", "c")}, {row("c", "d"), row("a", "b")}, {row("b", "a")}, {row("", "a")}, {row("a", "")},
		{row("\x80", "\xff")}, {row("a", "bc")}, {row("a", "z"), row("b", "c")}, {row("a", "b"), row("c", "\x80")},
	} {
		if May(rows...) {
			t.Errorf("%q", rows)
		}
	}
}

func TestP12_1Union(t *testing.T) {
	for _, c := range []struct{ rows, want []api.Row }{
		{[]api.Row{row("a", "c"), row("b", "f")}, []api.Row{row("a", "f")}},
		{[]api.Row{row("a", "b"), row("c", "d")}, []api.Row{row("a", "b"), row("c", "d")}},
		{[]api.Row{row("x", "y"), row("a", "x")}, []api.Row{row("a", "y")}},
		{[]api.Row{row("a", "z"), row("b", "c"), row("y", "z")}, []api.Row{row("a", "z")}},
		{[]api.Row{row("b", "a"), row("", "z"), row("a", "xy"), row("\x80", "\xc0"), row("q", "q")}, []api.Row{row("q", "q")}},
		{[]api.Row{row("a", "a"), row("a", "a\x80")}, []api.Row{row("a", "a\x80")}},
		{nil, nil},
	} {
		kept := slices.Clone(c.rows)
		if got := Union(c.rows...); !slices.Equal(got, c.want) || !May(got...) || !slices.Equal(c.rows, kept) {
			t.Errorf("Union of %q: %q", c.rows, got)
		}
	}
}

func TestP12_1UnionRandom(t *testing.T) {
	rnd := rand.New(rand.NewSource(15))
	for range 2000 {
		rows := make([]api.Row, rnd.Intn(6))
		for i := range rows {
			rows[i] = row(string(rune('a'+rnd.Intn(20))), string(rune('a'+rnd.Intn(20))))
		}
		got := Union(rows...)
		if !May(got...) {
			t.Fatalf("Union of %q: %q", rows, got)
		}
		var valid []api.Row
		for _, r := range rows {
			if r.From <= r.To {
				valid = append(valid, r)
			}
		}
		for c := 'a'; c < 'a'+20; c++ {
			if Has(got, false, false, string(c)) != Has(valid, false, false, string(c)) {
				t.Fatalf("Union of %q: %q, %c", rows, got, c)
			}
		}
	}
}

func TestP12_1Has(t *testing.T) {
	af, AF := []api.Row{row("a", "f")}, []api.Row{row("A", "F")}
	for _, c := range []struct {
		rows      []api.Row
		not, fold bool
		c         string
		want      bool
	}{
		{af, false, true, "B", true}, {af, false, false, "B", false}, {AF, false, true, "b", true}, {AF, false, false, "b", false},
		{af, true, true, "B", false}, {af, true, false, "B", true}, {af, false, true, "g", false}, {af, true, true, "G", true},
		{af, false, false, "a", true}, {af, false, false, "f", true}, {nil, false, true, "a", false}, {nil, true, false, "", true},
		{[]api.Row{row("@", "@"), row("[", "`")}, false, true, "A", false},
		{[]api.Row{row("Z", "a")}, false, true, "z", true}, {[]api.Row{row("Z", "a")}, false, true, "b", false},
		{[]api.Row{row("é", "日")}, false, true, "é", true}, {af, false, false, "bz", true},
	} {
		if Has(c.rows, c.not, c.fold, c.c) != c.want {
			t.Errorf("Has(%q, %v, %v, %q)", c.rows, c.not, c.fold, c.c)
		}
	}
}

func TestP12_2Named(t *testing.T) {
	got, ok := Named('w')
	if !ok || !slices.Equal(got, []api.Row{row("0", "9"), row("A", "Z"), row("_", "_"), row("a", "z")}) {
		t.Errorf("w: %q", got)
	}
	got[0].From = "x"
	if again, _ := Named('w'); again[0].From != "0" {
		t.Error("R4: the rows are shared")
	}
	d, _ := Named('d')
	s, _ := Named('s')
	for i := range 256 {
		c := string([]byte{byte(i)})
		if Has(d, false, false, c) != (i >= '0' && i <= '9') || Has(s, false, false, c) != (i >= 9 && i <= 13 || i == 32) {
			t.Errorf("byte %d", i)
		}
		rows, ok := Named(byte(i))
		if want := c == "d" || c == "w" || c == "s"; ok != want || (rows != nil) != want || !May(rows...) {
			t.Errorf("Named(%d): %q, %v", i, rows, ok)
		}
	}
}
