package sshow

import (
	"math/rand"
	"strings"
	"testing"

	"gimlet/api"
	"gimlet/rxshow"
	"gimlet/snode"
	"gimlet/sread"
	"gimlet/xform"
)

func text(s string) api.Snip { return api.Snip{Kind: api.SnText, Text: s} }

func stop(n int) api.Snip { return api.Snip{Kind: api.SnStop, N: n} }

func holder(n int, kids ...api.Snip) api.Snip {
	return api.Snip{Kind: api.SnStop, N: n, Has: true, Kids: kids}
}

func choice(n int, opts ...string) api.Snip { return api.Snip{Kind: api.SnChoice, N: n, Opts: opts} }

func variable(name string) api.Snip { return api.Snip{Kind: api.SnVar, Text: name} }

func turned(s api.Snip, form string) api.Snip {
	s.Turned = true
	s.Form, _, _ = xform.Reads(form+"}", 0)
	return s
}

func TestP22_1Show(t *testing.T) {
	full := variable("ab_1")
	full.Has, full.Kids = true, []api.Snip{text("}"), stop(0)}
	for want, l := range map[string][]api.Snip{
		"":                          nil,
		`${1:a\}}`:                  {holder(1, text("a}"))},
		`${2|a,b\,c|}`:              {choice(2, "a", "b,c")},
		`${0|,\$\}\\\,\|{/|}`:       {choice(0, "", `$}\,|{/`)},
		`\$\}\\,|/{:é`:              {text(`$}\,|/{:é`)},
		"${0}${9999}x${a}":          {stop(0), stop(9999), text("x"), variable("a")},
		"${1:}${1:${2:${3}}}":       {holder(1), holder(1, holder(2, stop(3)))},
		`${ab_1:\}${0}}`:            {full},
		`${1/\//${0}\\/gi}${a/x//}`: {turned(stop(1), `/\//$0\\/ig`), turned(variable("a"), "/x//")},
	} {
		if got, e := Show(l); got != want || e != api.OK {
			t.Errorf("Show: %q, %d, not %q", got, e, want)
		}
	}
	for i, l := range [][]api.Snip{{text("")}, {text("a"), text("b")}, {choice(1)}, {variable("9")}, {stop(-1)}, {holder(1, text(""))}, {{Kind: 7}}} {
		if got, e := Show(l); got != "" || e != api.ErrForm {
			t.Errorf("tree %d: %q, %d", i, got, e)
		}
	}
}

func random(rnd *rand.Rand, depth int) []api.Snip {
	s := func() string {
		var b strings.Builder
		for range 1 + rnd.Intn(4) {
			b.WriteString([]string{"$", "}", "\\", "/", ":", "a", "1", "{", "|", ",", "é", "\n", "${1}"}[rnd.Intn(13)])
		}
		return b.String()
	}
	forms := []string{"/a/b/", `/[\/]|(x)/${1:+\}y}/g`, `/\\\//\$/i`, "//${0:/camelcase}/gi", `/\}{/}/`}
	var l []api.Snip
	for range rnd.Intn(4) {
		p := []api.Snip{text(s()), stop(rnd.Intn(4)), choice(rnd.Intn(4), s(), "", s()), variable("v" + string(rune('a'+rnd.Intn(3)))), turned(stop(1), forms[rnd.Intn(5)]), turned(variable("V"), forms[rnd.Intn(5)])}[rnd.Intn(6)]
		if depth > 0 && rnd.Intn(2) == 0 && (p.Kind == api.SnStop || p.Kind == api.SnVar) && !p.Turned {
			p.Has, p.Kids = true, random(rnd, depth-1)
		}
		l = append(l, p)
	}
	return snode.Join(l...)
}

// shortRx reports whether each regular expression of a tree can be read back.
func shortRx(l []api.Snip) bool {
	for _, s := range l {
		rx, _ := rxshow.Show(s.Form.Rx)
		if len(rx) > api.MaxRx || !shortRx(s.Kids) {
			return false
		}
	}
	return true
}

func TestP22_2ReadBack(t *testing.T) {
	rnd := rand.New(rand.NewSource(26))
	for range 20000 {
		l := random(rnd, 4)
		s, e := Show(l)
		if e != api.OK {
			t.Fatalf("Show: %d", e)
		}
		if got, e := sread.Read(s); len(s) <= api.MaxSnip && shortRx(l) && (e != api.OK || !snode.Same(got, l)) {
			t.Fatalf("Read(%q): %v, %d, not %v", s, got, e, l)
		}
	}
}

func TestP22_2WhatIsReadIsShownAndReadBack(t *testing.T) {
	rnd := rand.New(rand.NewSource(27))
	for range 20000 {
		var b strings.Builder
		for range rnd.Intn(15) {
			b.WriteString([]string{"$", "{", "}", "${1:", "${2|", "|}", "|", ",", "\\", "a", "1", "$0", "${a", "/", "${1/a/", "/g}", ":", "}"}[rnd.Intn(18)])
		}
		l, _ := sread.Read(b.String())
		s, e := Show(l)
		if got, f := sread.Read(s); e != api.OK || f != api.OK || !snode.Same(got, l) {
			t.Fatalf("%q is shown as %q and read as %v", b.String(), s, got)
		}
	}
}
