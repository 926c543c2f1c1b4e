package spot

import (
	"strings"
	"testing"
)

func TestTake(t *testing.T) {
	s := Spot{Text: "ab\x00"}
	if s.Take('b') || !s.Take('a') || !s.Has('b') || s.At != 1 || s.TakeAll("bc") || !s.TakeAll("b") || !s.TakeAll("") {
		t.Error("Take, Has, TakeAll")
	}
	if !s.Take(0) || !s.Done() || s.Has(0) || s.Take(0) || s.TakeAll("a") {
		t.Error("the end")
	}
}

func TestNumber(t *testing.T) {
	for text, want := range map[string]int{"0": 0, "7x": 7, "9999": 9999, "0001": 1, "12 3": 12, "": -1, "x": -1, "12345": -1, "00000": -1, "123456": -1, "1234567x": -1, "-1": -1} {
		s := Spot{Text: text}
		n, ok := s.Number()
		if ok != (want >= 0) || ok && n != want || !ok && (n != 0 || s.At != 0) || ok && s.At != len(strings.TrimRight(strings.TrimSuffix(text, " 3"), "x")) {
			t.Errorf("Number of %q: %d, %v", text, n, ok)
		}
	}
}

func TestUntil(t *testing.T) {
	for _, c := range []struct {
		text, want string
		at         int
	}{
		{"ab}c", "ab", 3}, {"}", "", 1}, {`a\}b}`, "a}b", 5}, {`a\\}b}`, `a\`, 4}, {`\x}`, `\x`, 3}, {`\/}`, `\/`, 3},
		{"ab", "", 0}, {`ab\}`, "", 0}, {`ab\`, "", 0}, {"", "", 0}, {"\x00\xff}", "\x00\xff", 3},
	} {
		s := Spot{Text: c.text}
		got, ok := s.Until('}', `}\`)
		if got != c.want || s.At != c.at || ok != (c.at > 0) {
			t.Errorf("Until of %q: %q, %d", c.text, got, s.At)
		}
		if marked := (Spot{Text: Mark(c.want, `}\`) + "}"}); ok {
			if again, _ := marked.Until('}', `}\`); again != c.want {
				t.Errorf("Mark of %q: %q", c.want, marked.Text)
			}
		}
	}
}
