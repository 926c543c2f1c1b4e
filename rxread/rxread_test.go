package rxread

import (
	"math/rand"
	"strings"
	"testing"

	"gimlet/api"
	"gimlet/rxtree"
)

func ch(c string) api.Rx { return api.Rx{Kind: api.RxChar, Char: c} }

func kind(k int, kids ...api.Rx) api.Rx { return api.Rx{Kind: k, Kids: kids} }

func rep(x api.Rx, from, to int) api.Rx {
	return api.Rx{Kind: api.RxRepeat, Min: from, Max: to, Kids: []api.Rx{x}}
}

func lazy(x api.Rx) api.Rx {
	x.Lazy = true
	return x
}

func set(rows ...string) api.Rx {
	x := kind(api.RxSet)
	for i := 0; i < len(rows); i += 2 {
		x.Rows = append(x.Rows, api.Row{From: rows[i], To: rows[i+1]})
	}
	return x
}

func not(x api.Rx) api.Rx {
	x.Not = true
	return x
}

var (
	a, b, c = ch("a"), ch("b"), ch("c")
	empty   = kind(api.RxSeq)
	digits  = set("0", "9")
	words   = set("0", "9", "A", "Z", "_", "_", "a", "z")
	spaces  = set("\t", "\r", " ", " ")
)

func TestP14_1Trees(t *testing.T) {
	for s, want := range map[string]api.Rx{
		"":              empty,
		"a|b*":          kind(api.RxAlt, a, rep(b, 0, -1)),
		"|":             kind(api.RxAlt, empty, empty),
		"ab|c|":         kind(api.RxAlt, kind(api.RxSeq, a, b), c, empty),
		"^$":            kind(api.RxSeq, kind(api.RxFirst), kind(api.RxLast)),
		`\b\B.`:         kind(api.RxSeq, kind(api.RxEdge), kind(api.RxInner), kind(api.RxAny)),
		"(a)":           kind(api.RxGroup, a),
		"()":            kind(api.RxGroup, empty),
		"(?:a|b)c":      kind(api.RxSeq, kind(api.RxBare, kind(api.RxAlt, a, b)), c),
		"((a)b)":        kind(api.RxGroup, kind(api.RxSeq, kind(api.RxGroup, a), b)),
		`\d`:            digits,
		`\w`:            words,
		`\s`:            spaces,
		`\D`:            not(digits),
		`\W`:            not(words),
		`\S`:            not(spaces),
		`\n\r\t\f\v`:    kind(api.RxSeq, ch("\n"), ch("\r"), ch("\t"), ch("\f"), ch("\v")),
		`\\\(\]\_\é\ `:  kind(api.RxSeq, ch("\\"), ch("("), ch("]"), ch("_"), ch("é"), ch(" ")),
		"]}/-,:\n\x01":  kind(api.RxSeq, ch("]"), ch("}"), ch("/"), ch("-"), ch(","), ch(":"), ch("\n"), ch("\x01")),
		"é\xff\x80":     kind(api.RxSeq, ch("é"), ch("\xff\x80")),
		"(\x80":         ch("(\x80"),
		"\\\x80":        ch("\\\x80"),
		"\\n\x80":       ch("n\x80"),
		"\\(\x80":       ch("(\x80"),
		"a*\x80":        kind(api.RxSeq, a, ch("*\x80")),
		"a*":            rep(a, 0, -1),
		"a+?":           lazy(rep(a, 1, -1)),
		"a??":           lazy(rep(a, 0, 1)),
		"a{3}":          rep(a, 3, 3),
		"a{3}?":         lazy(rep(a, 3, 3)),
		"a{0,}":         rep(a, 0, -1),
		"a{007,255}":    rep(a, 7, 255),
		"(a){2,2}":      rep(kind(api.RxGroup, a), 2, 2),
		"(?:a)?":        rep(kind(api.RxBare, a), 0, 1),
		".*[a]+":        kind(api.RxSeq, rep(kind(api.RxAny), 0, -1), rep(set("a", "a"), 1, -1)),
		"[]":            set(),
		"[^]":           not(set()),
		"[]a]":          kind(api.RxSeq, set(), a, ch("]")),
		"[a-cb-d]":      set("a", "d"),
		"[ba]":          set("a", "a", "b", "b"),
		"[^a^]":         not(set("^", "^", "a", "a")),
		"[-a]":          set("-", "-", "a", "a"),
		"[a-]":          set("-", "-", "a", "a"),
		"[--a]":         set("-", "a"),
		"[a-b-c]":       set("-", "-", "a", "b", "c", "c"),
		`[\d-z]`:        set("-", "-", "0", "9", "z", "z"),
		`[\w\s\d]`:      set("\t", "\r", " ", " ", "0", "9", "A", "Z", "_", "_", "a", "z"),
		`[\]\n-\r\-\^]`: set("\n", "\r", "-", "-", "]", "]", "^", "^"),
		"[[.*(|]":       set("(", "(", "*", "*", ".", ".", "[", "[", "|", "|"),
		"[é-日]":         set("é", "日"),
		"[a-\x80]":      set("-\x80", "-\x80", "a", "a"),
		"[a\\-z]":       set("-", "-", "a", "a", "z", "z"),
	} {
		got, e := Read(s)
		if e != api.OK || !rxtree.Same(got, want) {
			t.Errorf("Read(%q): %v, %d, not %v", s, got, e, want)
		}
	}
}

func TestP14_1Errors(t *testing.T) {
	for _, s := range []string{
		"*", "+a", "?", "a**", "a+*", "a???", "a*??", "|*", "(*)", "^*", "$?", `\b+`, `\B{2}`, "(", ")", "a)", "(a", "(?", "(?a)", "(?:a", "(?=a)", "((a)",
		"{", "{2}", "a{", "a{}", "a{,2}", "a{2", "a{2,", "a{2,1}", "a{2,3", "a{256}", "a{1,256}", "a{1000}", "a{0001}", "a{1,0002}", "a{ 1}", "a{1}{2}", "a{-1}", "a{1,2,3}",
		"[", "[a", "[^", "[a-", "[b-a]", "[a-\\d]", "[a--]", `[\`, `[\b]`, `[\D]`, `[\a]`, `[a-\q]`, `\`, `\a`, `\1`, `\Z`, `a\`, "\x80", "\xbfa", "[z-\xc0\\]",
	} {
		if x, e := Read(s); e != api.ErrForm || !rxtree.Same(x, api.Rx{}) {
			t.Errorf("Read(%q): %v, %d", s, x, e)
		}
	}
}

func TestP14_1Limits(t *testing.T) {
	if x, e := Read(strings.Repeat("a", api.MaxRx)); e != api.OK || len(x.Kids) != api.MaxRx {
		t.Error("a pattern at the limit")
	}
	if x, e := Read(strings.Repeat("*", api.MaxRx+1)); e != api.ErrSize || !rxtree.Same(x, api.Rx{}) {
		t.Error("a pattern beyond the limit")
	}
	open, shut := strings.Repeat("(", api.MaxGroups), strings.Repeat(")", api.MaxGroups)
	bare := strings.Repeat("(?:", api.MaxGroups)
	for s, want := range map[string]api.Errno{
		open + shut: api.OK, bare + shut: api.OK, open + "(" + shut + ")": api.ErrDeep, bare + "(?:": api.ErrDeep, open + "(?": api.ErrDeep,
		"*" + open + "(": api.ErrForm, open + "*(": api.ErrForm, open + "a(*": api.ErrDeep, open + shut + "()": api.OK, open: api.ErrForm,
		"(" + open + "*": api.ErrDeep, open + "[": api.ErrForm, open + "[(": api.ErrForm, open + "[(]" + shut: api.OK,
	} {
		if x, e := Read(s); e != want || e != api.OK && !rxtree.Same(x, api.Rx{}) {
			t.Errorf("Read(%q): %d, not %d", s, e, want)
		}
	}
}

func TestP14_2TreesAreValid(t *testing.T) {
	rnd := rand.New(rand.NewSource(17))
	parts := strings.Split(`a|b|\||(|)|(?:|*|+|?|{1}|{0,3}|{2,}|[|]|^|$|\d|\W|\b|\n|.|-|é|[a-z]|[^\s]|()|(a)|/|,`, "|")
	parts = append(parts, "|", "\x80")
	good := 0
	for range 200000 {
		var s strings.Builder
		for range rnd.Intn(12) {
			s.WriteString(parts[rnd.Intn(len(parts))])
		}
		x, e := Read(s.String())
		if e == api.OK {
			good++
		}
		if !rxtree.May(x) || e != api.OK && e != api.ErrForm && e != api.ErrDeep {
			t.Fatalf("Read(%q): %v, %d", s.String(), x, e)
		}
	}
	if good < 10000 {
		t.Errorf("only %d patterns", good)
	}
	for _, s := range []string{strings.Repeat("(|)", 85), strings.Repeat("|", 256), strings.Repeat("()*", 85), strings.Repeat("(|a*)", 51)} {
		if x, e := Read(s); e != api.OK || !rxtree.May(x) {
			t.Errorf("Read(%q): %d", s, e)
		}
	}
}
