package sread

import (
	"math/rand"
	"strings"
	"testing"
	"time"

	"gimlet/api"
	"gimlet/snode"
	"gimlet/xform"
)

func text(s string) api.Snip { return api.Snip{Kind: api.SnText, Text: s} }

func stop(n int) api.Snip { return api.Snip{Kind: api.SnStop, N: n} }

func holder(n int, kids ...api.Snip) api.Snip {
	return api.Snip{Kind: api.SnStop, N: n, Has: true, Kids: kids}
}

func choice(n int, opts ...string) api.Snip { return api.Snip{Kind: api.SnChoice, N: n, Opts: opts} }

func variable(name string) api.Snip { return api.Snip{Kind: api.SnVar, Text: name} }

func turned(s api.Snip, form string) api.Snip {
	s.Turned = true
	s.Form, _, _ = xform.Reads(form+"}", 0)
	return s
}

func list(l ...api.Snip) []api.Snip { return l }

func TestP21_1Trees(t *testing.T) {
	deep := variable("a")
	deep.Has, deep.Kids = true, list(text("b"), stop(2))
	none := variable("A")
	none.Has = true
	name64 := strings.Repeat("n", api.MaxName)
	for s, want := range map[string][]api.Snip{
		"":                          nil,
		"${1:a$2}b":                 list(holder(1, text("a"), stop(2)), text("b")),
		"${1:a":                     list(text("${1:a")),
		"$12345":                    list(text("$12345")),
		"${12345}":                  list(text("${12345}")),
		"$0$1234${0012}":            list(stop(0), stop(1234), stop(12)),
		"$1a$b1$_":                  list(stop(1), text("a"), variable("b1"), variable("_")),
		"$b-${b}c":                  list(variable("b"), text("-"), variable("b"), text("c")),
		"${1:}":                     list(holder(1)),
		"${A:}":                     list(none),
		"${a:b$2}":                  list(deep),
		"${1a}${a b}${}${ 1}$ $$":   list(text("${1a}${a b}${}${ 1}$ $$")),
		"$":                         list(text("$")),
		"$$1":                       list(text("$"), stop(1)),
		"${":                        list(text("${")),
		"a}b{c":                     list(text("a}b{c")),
		`\$1\}\\\a\`:                list(text(`$1}\\a\`)),
		`\\$1`:                      list(text(`\`), stop(1)),
		`${1:\}a\$2\\}`:             list(holder(1, text(`}a$2\`))),
		"${1:{}}":                   list(holder(1, text("{")), text("}")),
		"${1:${2:${3:x}}y}":         list(holder(1, holder(2, holder(3, text("x"))), text("y"))),
		"${1:${2:a}":                list(text("${1:"), holder(2, text("a"))),
		"${1:a$b}${2:":              list(holder(1, text("a"), variable("b")), text("${2:")),
		"${1|a,b|}":                 list(choice(1, "a", "b")),
		"${1||}":                    list(choice(1, "")),
		"${1|,|}":                   list(choice(1, "", "")),
		`${1|a\,b,\|,\\,\$,\},\a|}`: list(choice(1, "a,b", "|", `\`, "$", "}", `\a`)),
		"${1|$2,},{\n|}":            list(choice(1, "$2", "}", "{\n")),
		"${1|a|":                    list(text("${1|a|")),
		"${1|a|b|}":                 list(text("${1|a|b|}")),
		`${1|a\|}`:                  list(text(`${1|a\|}`)),
		"${a|b|}":                   list(text("${a|b|}")),
		"${1|${2}|}":                list(choice(1, "${2}")),
		"${1|${2}":                  list(text("${1|"), stop(2)),
		"${1:${2|a|}|}":             list(holder(1, choice(2, "a"), text("|"))),
		"${1/a/b/g}":                list(turned(stop(1), "/a/b/g")),
		"${a/(x)/${1:/upcase}/}":    list(turned(variable("a"), "/(x)/${1:/upcase}/")),
		"${1/a/b/x}":                list(text("${1/a/b/x}")),
		"${1/*/b/}":                 list(text("${1/*/b/}")),
		"${1/a/b}":                  list(text("${1/a/b}")),
		"${1/a/$2":                  list(text("${1/a/"), stop(2)),
		"${1:${2/}/x/}}":            list(holder(1, turned(stop(2), "/}/x/"))),
		"${1:${2/a}":                list(holder(1, text("${2/a"))),
		"$" + name64:                list(variable(name64)),
		"$" + name64 + "n":          list(text("$" + name64 + "n")),
		"${" + name64 + "n}":        list(text("${" + name64 + "n}")),
		"${" + name64 + ":}":        list(api.Snip{Kind: api.SnVar, Text: name64, Has: true}),
		"\x00\xff$é":                list(text("\x00\xff$é")),
		"${1:a}}":                   list(holder(1, text("a")), text("}")),
		"${1+a}":                    list(text("${1+a}")),
	} {
		got, e := Read(s)
		if e != api.OK || !snode.Same(got, want) {
			t.Errorf("Read(%q): %v, %d", s, got, e)
		}
	}
}

func nested(n int) string { return strings.Repeat("${1:", n) + strings.Repeat("}", n) }

func TestP21_1Limits(t *testing.T) {
	if l, e := Read(strings.Repeat("a", api.MaxSnip)); e != api.OK || len(l) != 1 {
		t.Error("a snippet at the limit")
	}
	if l, e := Read(nested(40) + strings.Repeat("a", api.MaxSnip)); e != api.ErrSize || l != nil {
		t.Error("a snippet beyond the limit")
	}
	if l, e := Read(nested(api.MaxDeep)); e != api.OK || snode.Deep(l) != api.MaxDeep {
		t.Error("a depth at the limit")
	}
	for _, s := range []string{nested(api.MaxDeep + 1), "a" + nested(1600) + "b", strings.Repeat("${V:", 33) + strings.Repeat("}", 40)} {
		if l, e := Read(s); e != api.ErrDeep || l != nil {
			t.Errorf("a depth beyond the limit: %d", e)
		}
	}
	if l, e := Read(strings.Repeat("${1:", 500) + nested(32)); e != api.OK || len(l) != 2 {
		t.Error("what is not complete is not deep")
	}
}

// model parses as the chapter is written: every dollar by itself, without any memory.
type model struct{ s string }

func (m model) part(at int) (api.Snip, int, bool) {
	rest := m.s[at+1:]
	braced := strings.HasPrefix(rest, "{")
	if braced {
		rest = rest[1:]
	}
	digits := len(rest) - len(strings.TrimLeft(rest, "0123456789"))
	word := 0
	for word < len(rest) && (rest[word] == '_' || rest[word] >= '0' && rest[word] <= '9' || rest[word] >= 'A' && rest[word] <= 'Z' || rest[word] >= 'a' && rest[word] <= 'z') {
		word++
	}
	var s api.Snip
	switch {
	case digits >= 1 && digits <= 4:
		n := 0
		for _, c := range rest[:digits] {
			n = n*10 + int(c-'0')
		}
		s, rest = stop(n), rest[digits:]
	case digits == 0 && word >= 1 && word <= api.MaxName:
		s, rest = variable(rest[:word]), rest[word:]
	default:
		return s, 0, false
	}
	here := len(m.s) - len(rest)
	if !braced {
		return s, here, true
	}
	if rest == "" {
		return s, 0, false
	}
	switch {
	case rest[0] == '}':
		return s, here + 1, true
	case rest[0] == ':':
		kids, end, ok := m.parts(here+1, true)
		s.Has, s.Kids = true, kids
		return s, end + 1, ok
	case rest[0] == '/':
		f, end, ok := xform.Reads(m.s, here)
		s.Turned, s.Form = true, f
		return s, end + 1, ok
	case rest[0] == '|' && s.Kind == api.SnStop:
		opts := []string{""}
		for k := here + 1; k < len(m.s); k++ {
			c := m.s[k]
			if c == '\\' && k+1 < len(m.s) && strings.IndexByte(`$}\,|`, m.s[k+1]) >= 0 {
				k++
				opts[len(opts)-1] += m.s[k : k+1]
			} else if c == '|' {
				return choice(s.N, opts...), k + 2, k+1 < len(m.s) && m.s[k+1] == '}'
			} else if c == ',' {
				opts = append(opts, "")
			} else {
				opts[len(opts)-1] += m.s[k : k+1]
			}
		}
	}
	return s, 0, false
}

func (m model) parts(at int, braced bool) ([]api.Snip, int, bool) {
	var all []api.Snip
	for at < len(m.s) {
		c := m.s[at]
		if c == '}' && braced {
			return snode.Join(all...), at, true
		}
		if c == '$' {
			if s, end, ok := m.part(at); ok {
				all = append(all, s)
				at = end
				continue
			}
		}
		if c == '\\' && at+1 < len(m.s) && strings.IndexByte(`$}\`, m.s[at+1]) >= 0 {
			at++
		}
		all = append(all, text(m.s[at:at+1]))
		at++
	}
	return snode.Join(all...), 0, !braced
}

func randomSnippet(rnd *rand.Rand, n int) string {
	var b strings.Builder
	for range rnd.Intn(n) {
		b.WriteString([]string{"$", "{", "}", "${1:", "${2|", "|}", "|", ",", "\\", "a", "1", "$0", "${a", "/", "${1/a/", "/g}", ":", "}", "${x:", "é"}[rnd.Intn(20)])
	}
	return b.String()
}

func TestP21_1AgainstTheModel(t *testing.T) {
	rnd := rand.New(rand.NewSource(24))
	for range 40000 {
		s := randomSnippet(rnd, 16)
		want, _, _ := model{s}.parts(0, false)
		if got, e := Read(s); e != api.OK || !snode.Same(got, want) {
			t.Fatalf("Read(%q): %v, %d, not %v", s, got, e, want)
		}
	}
}

func TestP21_2TreesAreValid(t *testing.T) {
	rnd := rand.New(rand.NewSource(25))
	for range 3000 {
		s := randomSnippet(rnd, 400)
		l, e := Read(s)
		if !snode.May(l) || e != api.OK && e != api.ErrDeep {
			t.Fatalf("Read(%q): %d", s, e)
		}
	}
}

func TestP21_2EndsSoon(t *testing.T) {
	start := time.Now()
	for _, s := range []string{
		"${1:", "${1:$2", "${1|", "${1|a,", "${a/", "${1/a/", "${1/a/${1:+", "${1/a/${1:?", "$", "${", "\\", "${1/\\", "${1:${1/a/", "${1|${1/a/", "${1/(/", "${x:${1|a|}",
		"${1/a/${1:?b:", "${1:{", "$a", "${1/[", "${1:}", "${1/a/b/g}", "${1/a/$1", "${1/\\//",
	} {
		for _, end := range []string{"", "}", "|}", "/}", "/g}", ":}/}"} {
			many := strings.Repeat(s, (api.MaxSnip-len(end))/len(s)) + end
			l, e := Read(many)
			if e != api.OK && e != api.ErrDeep || !snode.May(l) {
				t.Errorf("many %q and %q: %d", s, end, e)
			}
		}
	}
	if d := time.Since(start); d > 20*time.Second {
		t.Errorf("it takes %v", d)
	}
}
