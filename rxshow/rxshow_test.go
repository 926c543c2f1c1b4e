package rxshow

import (
	"math/rand"
	"strings"
	"testing"

	"gimlet/api"
	"gimlet/rxread"
	"gimlet/rxset"
	"gimlet/rxtree"
)

func ch(c string) api.Rx { return api.Rx{Kind: api.RxChar, Char: c} }

func kind(k int, kids ...api.Rx) api.Rx { return api.Rx{Kind: k, Kids: kids} }

func rep(x api.Rx, from, to int, lazy bool) api.Rx {
	return api.Rx{Kind: api.RxRepeat, Min: from, Max: to, Lazy: lazy, Kids: []api.Rx{x}}
}

func set(not bool, rows ...api.Row) api.Rx { return api.Rx{Kind: api.RxSet, Not: not, Rows: rows} }

func TestP15_1Texts(t *testing.T) {
	a, b := ch("a"), ch("b")
	for want, x := range map[string]api.Rx{
		"":             {},
		"a|b*":         kind(api.RxAlt, a, rep(b, 0, -1, false)),
		`\/`:           ch("/"),
		`\^`:           ch("^"),
		`\]\}\\\|`:     kind(api.RxSeq, ch("]"), ch("}"), ch("\\"), ch("|")),
		`\n\r\t\f\v`:   kind(api.RxSeq, ch("\n"), ch("\r"), ch("\t"), ch("\f"), ch("\v")),
		"\n\x80":       ch("\n\x80"),
		"\\.\x80":      ch(".\x80"),
		"-,:é\x00":     kind(api.RxSeq, ch("-"), ch(","), ch(":"), ch("é"), ch("\x00")),
		`.^$\b\B`:      kind(api.RxSeq, kind(api.RxAny), kind(api.RxFirst), kind(api.RxLast), kind(api.RxEdge), kind(api.RxInner)),
		"(a|)(?:ab)":   kind(api.RxSeq, kind(api.RxGroup, kind(api.RxAlt, a, api.Rx{})), kind(api.RxBare, kind(api.RxSeq, a, b))),
		"[]":           set(false),
		"[^a-z]":       set(true, api.Row{From: "a", To: "z"}),
		`[\--\/\\\]é]`: set(false, api.Row{From: "-", To: "/"}, api.Row{From: "\\", To: "\\"}, api.Row{From: "]", To: "]"}, api.Row{From: "é", To: "é"}),
		`[\n-\r$(.\[]`: set(false, api.Row{From: "\n", To: "\r"}, api.Row{From: "$", To: "$"}, api.Row{From: "(", To: "("}, api.Row{From: ".", To: "."}, api.Row{From: "[", To: "["}),
		"[\\^\x80]":    set(false, api.Row{From: "^\x80", To: "^\x80"}),
		"a+":           rep(a, 1, -1, false),
		"a+?":          rep(a, 1, -1, true),
		"a?":           rep(a, 0, 1, false),
		"a??":          rep(a, 0, 1, true),
		"a*?":          rep(a, 0, -1, true),
		"a{0}":         rep(a, 0, 0, false),
		"a{1}?":        rep(a, 1, 1, true),
		"a{2,}":        rep(a, 2, -1, false),
		"a{0,2}":       rep(a, 0, 2, false),
		"a{255}":       rep(a, 255, 255, false),
		"(a){3,255}?":  rep(kind(api.RxGroup, a), 3, 255, true),
	} {
		if got, e := Show(x); got != want || e != api.OK {
			t.Errorf("Show: %q, %d, not %q", got, e, want)
		}
	}
	for i := range 128 {
		c := string(rune(i))
		got, _ := Show(ch(c))
		inClass, _ := Show(set(false, api.Row{From: c, To: c}))
		if escaped := strings.Contains(`^$\.*+?()[]{}|/`, c); escaped && got != `\`+c || !escaped && (i < 9 || i > 13) && got != c {
			t.Errorf("Show of byte %d: %q", i, got)
		}
		if escaped := strings.Contains(`^-\[]/`, c); escaped && inClass != `[\`+c+"]" || !escaped && (i < 9 || i > 13) && inClass != "["+c+"]" {
			t.Errorf("Show of a class of byte %d: %q", i, inClass)
		}
	}
}

func TestP15_1Refused(t *testing.T) {
	for i, x := range []api.Rx{kind(api.RxAlt), kind(api.RxGroup), ch(""), {Kind: 12}, rep(ch("a"), 2, 1, false), {Max: 1}} {
		if s, e := Show(x); s != "" || e != api.ErrForm {
			t.Errorf("tree %d: %q, %d", i, s, e)
		}
	}
}

// random returns a valid tree.
func random(rnd *rand.Rand, depth int) api.Rx {
	chars := []string{"a", "B", "-", "^", "]", "\\", "/", "}", "{", "\n", "\v", "é", "\xff", "|\x80", "n", "d", "1", ",", "?", ":", "\x00"}
	c := func() string { return chars[rnd.Intn(len(chars))] }
	if depth == 0 {
		switch rnd.Intn(4) {
		case 0:
			return kind([]int{api.RxSeq, api.RxAny, api.RxFirst, api.RxLast, api.RxEdge, api.RxInner}[rnd.Intn(6)])
		case 1:
			return set(rnd.Intn(2) == 0, rxset.Union(api.Row{From: c(), To: c()}, api.Row{From: c(), To: c()}, api.Row{From: c(), To: "\xff"})...)
		}
		return ch(c())
	}
	kid := func() api.Rx { return random(rnd, depth-1) }
	switch rnd.Intn(4) {
	case 0:
		return rxtree.Alt(kid(), kid(), kid())
	case 1:
		return rxtree.Seq(kid(), kid(), kind(api.RxBare, kid()))
	case 2:
		return rep(kind(api.RxGroup, kid()), rnd.Intn(3), rnd.Intn(3)+2, rnd.Intn(2) == 0)
	}
	return rep(ch(c()), rnd.Intn(3), -1, rnd.Intn(2) == 0)
}

func TestP15_2ReadBack(t *testing.T) {
	rnd := rand.New(rand.NewSource(18))
	count := 0
	for range 20000 {
		x := random(rnd, rnd.Intn(4))
		s, e := Show(x)
		if !rxtree.May(x) {
			continue
		}
		if e != api.OK {
			t.Fatalf("Show: %d", e)
		}
		if len(s) > api.MaxRx {
			continue
		}
		count++
		if y, e := rxread.Read(s); e != api.OK || !rxtree.Same(x, y) {
			t.Fatalf("Read(%q): %v, %d, not %v", s, y, e, x)
		}
	}
	if count < 10000 {
		t.Errorf("only %d trees", count)
	}
}
