package tally

import (
	"math"
	"math/rand"
	"testing"
	"unicode/utf16"
	"unicode/utf8"

	"gimlet/api"
)

var texts = []string{"", "a", "\n", "a\nb", "\n\n", "a\n\U0001F600", "é", "\x80\x80a", "\xf0\xff\xc0\xbf", "日本\r\n語"}

func TestP2_1Of(t *testing.T) {
	if got := Of("a\n\U0001F600"); got != (Tally{6, 1, 3, 4}) {
		t.Errorf("the example: %v", got)
	}
	for _, s := range []string{"", "abc", "é\n", "日本語", "x\U0001F600y\n\n"} {
		got := Of(s)
		if got.Runes != utf8.RuneCountInString(s) || got.Units != len(utf16.Encode([]rune(s))) {
			t.Errorf("%q: %v", s, got)
		}
	}
	for c, want := range map[byte]Tally{
		127: {1, 0, 1, 1}, 128: {1, 0, 0, 0}, 191: {1, 0, 0, 0}, 192: {1, 0, 1, 1},
		239: {1, 0, 1, 1}, 240: {1, 0, 1, 2}, 255: {1, 0, 1, 2}, 10: {1, 1, 1, 1}, 13: {1, 0, 1, 1},
	} {
		if got := Of(string([]byte{c})); got != want {
			t.Errorf("byte %d: %v", c, got)
		}
	}
}

func TestP2_1PlusByFold(t *testing.T) {
	a, b := Tally{1, -2, 3, 1 << 40}, Tally{-10, 20, 30, -1 << 40}
	if got := a.Plus(b); got != (Tally{-9, 18, 33, 0}) {
		t.Errorf("Plus: %v", got)
	}
	if Fold() != (Tally{}) || Fold(a) != a || Fold(a, b, b) != a.Plus(b).Plus(b) {
		t.Error("Fold")
	}
	c := Tally{Bytes: 5, Breaks: 6, Runes: 7, Units: 8}
	for way, want := range map[int]int{api.Bytes: 5, api.Breaks: 6, api.Runes: 7, api.Units: 8, 4: 0, -1: 0, math.MaxInt: 0} {
		if got := c.By(way); got != want {
			t.Errorf("By(%d): %d", way, got)
		}
	}
}

func TestP2_2Upto(t *testing.T) {
	if Upto("a\nb", api.Breaks, 0) != 1 {
		t.Error("the example")
	}
	for _, s := range texts {
		for way := -1; way <= 5; way++ {
			for n := -2; n <= len(s)+2; n++ {
				if got, want := Upto(s, way, n), slowUpto(s, way, n); got != want {
					t.Errorf("Upto(%q, %d, %d): %d, not %d", s, way, n, got, want)
				}
			}
		}
	}
	if Upto("abc", api.Bytes, math.MaxInt) != 3 || Upto("abc", api.Units, math.MaxInt) != 3 {
		t.Error("a great n")
	}
}

func slowUpto(s string, way int, n int) int {
	if n < 0 || way < 0 || way > 3 {
		return -1
	}
	for k := len(s); k > 0; k-- {
		if Of(s[:k]).By(way) <= n {
			return k
		}
	}
	return 0
}

func TestP2_3Parts(t *testing.T) {
	r := rand.New(rand.NewSource(1))
	for range 200 {
		b := make([]byte, r.Intn(40))
		r.Read(b)
		s := string(b)
		for k := range len(s) + 1 {
			if Of(s[:k]).Plus(Of(s[k:])) != Of(s) {
				t.Fatalf("%q divided at %d", s, k)
			}
		}
	}
}
