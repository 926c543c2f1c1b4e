package fmts

import (
	"math"
	"math/rand"
	"slices"
	"strings"
	"testing"

	"gimlet/api"
)

func text(s string) api.Fmt { return api.Fmt{Kind: api.FmtText, Then: s} }

func part(n int) api.Fmt { return api.Fmt{Kind: api.FmtPart, N: n} }

func turn(n, way int) api.Fmt { return api.Fmt{Kind: api.FmtCase, N: n, Case: way} }

func when(n int, then string) api.Fmt { return api.Fmt{Kind: api.FmtIf, N: n, Then: then} }

func other(n int, s string) api.Fmt { return api.Fmt{Kind: api.FmtElse, N: n, Else: s} }

func both(n int, then, s string) api.Fmt {
	return api.Fmt{Kind: api.FmtBoth, N: n, Then: then, Else: s}
}

func TestP18_1Read(t *testing.T) {
	for s, want := range map[string][]api.Fmt{
		"":                        nil,
		"a$1":                     {text("a"), part(1)},
		"$0$0012${34}":            {part(0), part(12), part(34)},
		"$9999x":                  {part(9999), text("x")},
		"$12345":                  {text("$12345")},
		"$123456":                 {text("$123456")},
		"${1:+a${2:-b${3:?c":      {text("${1:+a${2:-b${3:?c")},
		"${1:?a${2:?b":            {text("${1:?a${2:?b")},
		"${12345}":                {text("${12345}")},
		"$1a$":                    {part(1), text("a$")},
		"$a${a}${}":               {text("$a${a}${}")},
		"$$1":                     {text("$"), part(1)},
		"${1":                     {text("${1")},
		"${1 }":                   {text("${1 }")},
		"${1:/upcase}":            {turn(1, api.Up)},
		"${2:/downcase}":          {turn(2, api.Down)},
		"${0:/capitalize}x":       {turn(0, api.Cap), text("x")},
		"${1:/camelcase}$1":       {turn(1, api.Camel), part(1)},
		"${1:/pascalcase}":        {turn(1, api.Pascal)},
		"${1:+a/b$c:d}":           {when(1, "a/b$c:d")},
		"${1:+}":                  {when(1, "")},
		`${1:+a\}b\\\$\/\:\x}`:    {when(1, `a}b\$/:\x`)},
		"${1:?a:b}":               {both(1, "a", "b")},
		"${1:?:}":                 {both(1, "", "")},
		"${1:?a}b/:c:d/e}":        {both(1, "a}b/", "c:d/e")},
		`${1:?a\:b:c\:d\}}`:       {both(1, "a:b", "c:d}")},
		"${1:?a}":                 {text("${1:?a}")},
		"${1:?a}b${1:+c}":         {both(1, "a}b${1", "+c")},
		"${1:-a}":                 {other(1, "a")},
		"${1:-}":                  {other(1, "")},
		"${1:}":                   {other(1, "")},
		"${1:abc}":                {other(1, "abc")},
		"${1:a+/?-}":              {other(1, "a+/?-")},
		"${1:--}":                 {other(1, "-")},
		`${1:\/a}`:                {other(1, "/a")},
		`${1:\+a}`:                {other(1, `\+a`)},
		"${1:-a":                  {text("${1:-a")},
		`a\$1\}\\\/\:\n\`:         {text(`a$1}\/\:\n\`)},
		`\${1}`:                   {text("${1}")},
		`\\${1}`:                  {text(`\`), part(1)},
		"}{:+?-|\n\x80":           {text("}{:+?-|\n\x80")},
		"${1:+a}b}${2}":           {when(1, "a"), text("b}"), part(2)},
		"${1:+${2:+x}y}":          {when(1, "${2:+x"), text("y}")},
		"${1:+a${1:-b${1:?c$1}$2": {when(1, "a${1:-b${1:?c$1"), part(2)},
	} {
		got, at, ok := Read(s+"/i", 0)
		if s != "" && s[len(s)-1] == '\\' { // it would escape the slash
			got, at, ok = Read(s+"x/i", 0)
			at--
			got[len(got)-1].Then = strings.TrimSuffix(got[len(got)-1].Then, "x")
		}
		if !ok || at != len(s) || !slices.Equal(got, want) || !May(got) {
			t.Errorf("Read(%q): %v, %d, %v", s, got, at, ok)
		}
	}
}

func TestP18_1WhereItEnds(t *testing.T) {
	for _, c := range []struct {
		s    string
		at   int
		want []api.Fmt
		end  int
	}{
		{"a$1/i", 0, []api.Fmt{text("a"), part(1)}, 3},
		{"a$1/i", 1, []api.Fmt{part(1)}, 3},
		{"a$1/i", 3, nil, 3},
		{"//", 1, nil, 1},
		{"${1:/upcase${1:+a}/", 0, []api.Fmt{text("${1:")}, 4},
		{"${1:/title}/", 0, []api.Fmt{text("${1:")}, 4},
		{"${1:/upcase }/", 0, []api.Fmt{text("${1:")}, 4},
		{"${1/a}/", 0, []api.Fmt{text("${1")}, 3},
		{"${1:+a/b", 0, []api.Fmt{text("${1:+a")}, 6},
		{"${1:+a/b}/", 0, []api.Fmt{when(1, "a/b")}, 9},
		{`a\/b/`, 0, []api.Fmt{text("a/b")}, 4},
		{`a\\/b/`, 0, []api.Fmt{text(`a\`)}, 3},
		{"${1:?a/b", 0, []api.Fmt{text("${1:?a")}, 6},
		{"${1:?a/b}c/:d}/", 0, []api.Fmt{both(1, "a/b}c/", "d")}, 14},
		{"${1:?a/b:c/", 0, []api.Fmt{text("${1:?a")}, 6},
	} {
		if got, end, ok := Read(c.s, c.at); !ok || end != c.end || !slices.Equal(got, c.want) {
			t.Errorf("Read(%q, %d): %v, %d, %v", c.s, c.at, got, end, ok)
		}
	}
	for _, c := range []struct {
		s  string
		at int
	}{{"", 0}, {"a", 0}, {"a/", 2}, {"a/", 3}, {"a/", -1}, {"/", math.MinInt}, {"/", math.MaxInt}, {`a\/`, 0}, {"${1:+a/}", 0}, {"$1", 0}, {"a\\", 0}} {
		if got, end, ok := Read(c.s, c.at); ok || got != nil || end != 0 {
			t.Errorf("Read(%q, %d): %v, %d", c.s, c.at, got, end)
		}
	}
}

func TestP18_1ReadEndsSoon(t *testing.T) {
	for _, s := range []string{"${1:+", "${1:?", "${1:?a:", "${1:-", "${1:", "$", "\\", "${", "${1:/", "${1:?\\:"} {
		for _, end := range []string{"", "}", ":", ":}", "/", "}/"} {
			Read(strings.Repeat(s, api.MaxDoc*4/len(s))+end, 0)
		}
	}
}

func TestP18_2May(t *testing.T) {
	good := [][]api.Fmt{nil, {text("a")}, {text("a"), part(0), text("b")}, {part(9999), part(9999)}, {turn(0, 1), turn(3, 5)}, {when(1, "")}, {when(1, "a")}, {other(1, "")}, {both(1, "", "")}, {both(0, "a", "b")}}
	bad := [][]api.Fmt{
		{text("")}, {text("a"), text("b")}, {part(-1)}, {part(10000)}, {turn(1, 0)}, {turn(1, 6)}, {turn(-1, 1)}, {when(-1, "a")}, {other(10000, "")},
		{{Kind: 6}}, {{Kind: -1}}, {{Kind: api.FmtText, Then: "a", N: 1}}, {{Kind: api.FmtText, Then: "a", Else: "b"}}, {{Kind: api.FmtText, Then: "a", Case: 1}},
		{{Kind: api.FmtPart, Then: "a"}}, {{Kind: api.FmtPart, Case: 1}}, {{Kind: api.FmtCase, Case: 1, Else: "a"}}, {{Kind: api.FmtIf, Else: "a"}},
		{{Kind: api.FmtIf, Case: 1}}, {{Kind: api.FmtElse, Then: "a"}}, {{Kind: api.FmtElse, Case: 2}}, {{Kind: api.FmtBoth, Case: 1}}, {both(-1, "", "")},
	}
	for _, fs := range good {
		if !May(fs) {
			t.Errorf("%v is valid", fs)
		}
	}
	for _, fs := range bad {
		s, e := Show(fs)
		if May(fs) || s != "" || e != api.ErrForm || Apply(fs, "a", "b") != "" {
			t.Errorf("%v is not valid", fs)
		}
	}
}

func TestP18_2Show(t *testing.T) {
	for want, fs := range map[string][]api.Fmt{
		"":                          nil,
		"${2:-}":                    {other(2, "")},
		`a\$\}\\\/:b{`:              {text(`a$}\/:b{`)},
		"${0}${12}x":                {part(0), part(12), text("x")},
		"${1:/upcase}":              {turn(1, api.Up)},
		"${1:/pascalcase}":          {turn(1, api.Pascal)},
		`${1:+\$\}\\\/\:}`:          {when(1, `$}\/:`)},
		`${1:?a\:b:c\:d}`:           {both(1, "a:b", "c:d")},
		`${1:-+}`:                   {other(1, "+")},
		"${9999:+\n\x80}":           {when(9999, "\n\x80")},
		`${1:?:}`:                   {both(1, "", "")},
		`${1:-\/upcase}${1:+\\\\n}`: {other(1, "/upcase"), when(1, `\\n`)},
	} {
		if got, e := Show(fs); got != want || e != api.OK {
			t.Errorf("Show of %v: %q, %d", fs, got, e)
		}
	}
}

func TestP18_2Apply(t *testing.T) {
	for _, c := range []struct {
		fs    []api.Fmt
		parts []string
		want  string
	}{
		{[]api.Fmt{when(1, "x")}, []string{"ab", "b"}, "x"},
		{[]api.Fmt{when(1, "x")}, []string{"ab", ""}, ""},
		{[]api.Fmt{when(2, "x")}, []string{"ab", "b"}, ""},
		{[]api.Fmt{text("<"), part(0), text("|"), part(1), text("|"), part(2), text(">")}, []string{"ab", "b"}, "<ab|b|>"},
		{[]api.Fmt{turn(0, api.Up), turn(0, api.Pascal), turn(5, api.Up)}, []string{"a b"}, "A BAB"},
		{[]api.Fmt{both(0, "x", "y"), both(1, "x", "y")}, []string{"a"}, "xy"},
		{[]api.Fmt{other(0, "x"), other(1, "y"), other(2, "z")}, []string{"a", ""}, "ayz"},
		{[]api.Fmt{part(0), other(0, "x")}, nil, "x"},
		{nil, []string{"a"}, ""},
	} {
		if got := Apply(c.fs, c.parts...); got != c.want {
			t.Errorf("Apply of %v to %q: %q", c.fs, c.parts, got)
		}
	}
}

func random(rnd *rand.Rand) []api.Fmt {
	s := func() string {
		var b strings.Builder
		for range rnd.Intn(5) {
			b.WriteString([]string{"$", "}", "\\", "/", ":", "a", "1", "{", "+", "?", "-", "é", "\n", "upcase", "${1}"}[rnd.Intn(15)])
		}
		return b.String()
	}
	var fs []api.Fmt
	for range rnd.Intn(5) {
		n := []int{0, 1, 12, 9999}[rnd.Intn(4)]
		f := []api.Fmt{text(s()), part(n), turn(n, 1+rnd.Intn(5)), when(n, s()), other(n, s()), both(n, s(), s())}[rnd.Intn(6)]
		if fs = append(fs, f); !May(fs) {
			fs = fs[:len(fs)-1]
		}
	}
	return fs
}

func TestP18_3RoundTrip(t *testing.T) {
	rnd := rand.New(rand.NewSource(21))
	for range 20000 {
		fs := random(rnd)
		s, e := Show(fs)
		if e != api.OK {
			t.Fatalf("Show of %v: %d", fs, e)
		}
		if got, at, ok := Read(s+"/", 0); !ok || at != len(s) || !slices.Equal(got, fs) {
			t.Fatalf("%v is shown as %q and read as %v, %d", fs, s, got, at)
		}
	}
}

func TestP18_1WhatIsReadIsValid(t *testing.T) {
	rnd := rand.New(rand.NewSource(22))
	for range 50000 {
		var b strings.Builder
		for range rnd.Intn(12) {
			b.WriteString([]string{"$", "{", "}", "\\", "/", ":", "1", "+", "?", "-", "a", "${1", "/upcase}", "${2:"}[rnd.Intn(14)])
		}
		fs, at, ok := Read(b.String(), 0)
		if !ok && (fs != nil || at != 0) || !May(fs) || ok && b.String()[at] != '/' {
			t.Fatalf("Read(%q): %v, %d", b.String(), fs, at)
		}
		s, _ := Show(fs)
		if again, _, _ := Read(s+"/", 0); !slices.Equal(again, fs) {
			t.Fatalf("Read(%q): %v, and again: %v", b.String(), fs, again)
		}
	}
}
