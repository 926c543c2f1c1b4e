package char

import (
	"math/rand"
	"slices"
	"testing"
	"unicode/utf8"
)

func TestP11_1SplitFirst(t *testing.T) {
	for s, want := range map[string][]string{
		"": nil, "aéb": {"a", "é", "b"}, "\x80\xbfa": {"\x80\xbf", "a"}, "\x80": {"\x80"},
		"\xc0\xff\x80\x80\x80\x80": {"\xc0", "\xff\x80\x80\x80\x80"}, "a\x80\n": {"a\x80", "\n"},
	} {
		if got := Split(s); !slices.Equal(got, want) {
			t.Errorf("Split(%q): %q", s, got)
		}
		first := ""
		if len(want) > 0 {
			first = want[0]
		}
		if First(s) != first {
			t.Errorf("First(%q): %q", s, First(s))
		}
	}
}

func TestP11_1Proper(t *testing.T) {
	for _, c := range []string{"a", "\x00", "\x7f", "é", "日", "\xc0", "\xff", "a\x80\xbf"} {
		if !Proper(c) {
			t.Errorf("%q is proper", c)
		}
	}
	for _, c := range []string{"", "\x80", "\xbf", "\x80\x80", "ab", "\x80a", "éa", "\xc0\xc0"} {
		if Proper(c) {
			t.Errorf("%q is not proper", c)
		}
	}
}

func TestP11_1JoinFoldWord(t *testing.T) {
	if Join() != "" || Join("a") != "a" || Join("a", "", "\x80", "b") != "a\x80b" {
		t.Error("Join")
	}
	if Fold("AbZz") != "abzz" || Fold("@[`{é\xc3\x89\x80") != "@[`{é\xc3\x89\x80" || Fold("") != "" {
		t.Error("Fold")
	}
	for i := range 256 {
		c := byte(i)
		want := c >= 'a' && c <= 'z' || c >= 'A' && c <= 'Z' || c >= '0' && c <= '9' || c == '_'
		if Word(string([]byte{c})) != want {
			t.Errorf("Word of byte %d", i)
		}
	}
	if Word("") || Word("ab") || Word("a\x80") || Word("é") {
		t.Error("Word of what is no single byte")
	}
}

func TestP11_1Places(t *testing.T) {
	for s, want := range map[string][]int{
		"": {0}, "a": {0, 1}, "aéb": {0, 1, 3, 4}, "\x80\x80": {0, 2}, "\x80a\x80": {0, 1, 3}, "\n\n": {0, 1, 2},
	} {
		if got := Places(s); !slices.Equal(got, want) {
			t.Errorf("Places(%q): %v", s, got)
		}
	}
}

func TestP11_2Whole(t *testing.T) {
	rnd := rand.New(rand.NewSource(14))
	for range 1000 {
		b := make([]byte, rnd.Intn(30))
		rnd.Read(b)
		s := string(b)
		parts := Split(s)
		if Join(parts...) != s {
			t.Fatalf("Split(%q): %q", s, parts)
		}
		at, places := 0, []int{}
		for i, c := range parts {
			if First(c) != c || i > 0 && !Proper(c) {
				t.Fatalf("%q is no character", c)
			}
			places = append(places, at)
			at += len(c)
		}
		if !slices.Equal(Places(s), append(places, at)) {
			t.Fatalf("Places(%q): %v", s, Places(s))
		}
	}
	if s := "aé日\U0001F600\n"; len(Split(s)) != utf8.RuneCountInString(s) {
		t.Error("the characters of valid UTF-8 are the runes")
	}
}
