package xform

import (
	"math"
	"math/rand"
	"strings"
	"testing"

	"gimlet/api"
	"gimlet/fmts"
	"gimlet/rxread"
	"gimlet/rxshow"
	"gimlet/rxtree"
)

// form reads a transform, written without what follows it.
func form(t *testing.T, s string) api.Form {
	t.Helper()
	f, at, ok := Reads(s+"}", 0)
	if !ok || at != len(s) {
		t.Fatalf("Reads(%q): %d, %v", s, at, ok)
	}
	return f
}

func same(a, b api.Form) bool {
	x, e := fmts.Show(a.Fmts)
	y, f := fmts.Show(b.Fmts)
	return a.All == b.All && a.Fold == b.Fold && rxtree.Same(a.Rx, b.Rx) && x == y && e == f
}

func TestP19_1MayShow(t *testing.T) {
	x := api.Rx{Kind: api.RxChar, Char: "x"}
	for want, f := range map[string]api.Form{
		"/x//i":                 {Rx: x, Fold: true},
		"///":                   {},
		"/x/a${1}\\//gi":        {Rx: x, Fmts: []api.Fmt{{Then: "a"}, {Kind: api.FmtPart, N: 1}, {Then: "/"}}, Fold: true, All: true},
		`/\//${0:/upcase}/g`:    {Rx: api.Rx{Kind: api.RxChar, Char: "/"}, Fmts: []api.Fmt{{Kind: api.FmtCase, Case: api.Up}}, All: true},
		"/(x|[^\\/])*?/${1:-}/": {Rx: api.Rx{Kind: api.RxRepeat, Max: -1, Lazy: true, Kids: []api.Rx{{Kind: api.RxGroup, Kids: []api.Rx{{Kind: api.RxAlt, Kids: []api.Rx{x, {Kind: api.RxSet, Not: true, Rows: []api.Row{{From: "/", To: "/"}}}}}}}}}, Fmts: []api.Fmt{{Kind: api.FmtElse, N: 1}}},
	} {
		if got, e := Show(f); !May(f) || got != want || e != api.OK {
			t.Errorf("Show: %q, %d, not %q", got, e, want)
		}
	}
	for i, f := range []api.Form{
		{Rx: api.Rx{Kind: api.RxGroup}}, {Rx: x, Fmts: []api.Fmt{{}}}, {Rx: x, Fmts: []api.Fmt{{Then: "a"}, {Then: "b"}}}, {Rx: api.Rx{Kind: 99}},
	} {
		s, e := Show(f)
		r, left, g := Apply(f, "abc", 100)
		if May(f) || s != "" || e != api.ErrForm || r != "" || left != 0 || g != api.ErrForm {
			t.Errorf("transform %d is not valid", i)
		}
	}
}

func TestP19_2Apply(t *testing.T) {
	for _, c := range []struct {
		form, s, want string
		used          int
	}{
		{"/b/x/g", "abb", "axx", 4},
		{"/b/x/", "abb", "axb", 2},
		{"/b//g", "abb", "a", 4},
		{"/B/x/i", "abb", "axb", 2},
		{"/B/x/", "abb", "abb", 4},
		{"/(a)|(b)/<$1|$2|$0|$3>/g", "ab", "<a||a|><|b|b|>", 10},
		{"/a*/-/g", "baa", "-b--", 5},
		{"//-/g", "éa", "-é-a-", 0},
		{"//-/", "ab", "-ab", 0},
		{"/^$/none/", "", "none", 2},
		{"/(.)(.*)/${1:/upcase}$2/", "foo\nbar", "Foo\nbar", 6},
		{"/(a)?b/${1:?yes:no}/g", "abb", "yesno", 9},
		{"/x/y/g", "", "", 1},
	} {
		got, left, e := Apply(form(t, c.form), c.s, 1000)
		if got != c.want || left != 1000-c.used || e != api.OK {
			t.Errorf("%s of %q: %q, %d used, %d", c.form, c.s, got, 1000-left, e)
		}
		if _, left, e := Apply(form(t, c.form), c.s, c.used); left != 0 || e != api.OK {
			t.Errorf("%s of %q with just enough fuel: %d", c.form, c.s, e)
		}
		if got, left, e := Apply(form(t, c.form), c.s, c.used-1); c.used > 0 && (got != "" || left != 0 || e != api.ErrFuel) {
			t.Errorf("%s of %q with too little fuel: %q, %d", c.form, c.s, got, e)
		}
	}
	if _, left, e := Apply(form(t, "/a//"), "a", math.MaxInt); left != api.MaxFuel-1 || e != api.OK {
		t.Error("fuel above MaxFuel")
	}
}

func TestP19_2Size(t *testing.T) {
	full := strings.Repeat("a", api.MaxDoc)
	for _, c := range []struct {
		form, s string
		fuel    int
		want    api.Errno
		size    int
	}{
		{"/^/x/", full, 9, api.ErrSize, 0},
		{"/^a/x/", full, 9, api.OK, api.MaxDoc},
		{"/^a//", full + "b", 9, api.OK, api.MaxDoc},
		{"/b/x/", full + "c", 9, api.ErrFuel, 0},
		{"/^b/x/", full + "c", api.MaxFuel, api.ErrFuel, 0},
		{"/^b|^$/x/", "", 9, api.OK, 1},
		{"/$/x/", full + full, 9, api.ErrFuel, 0},
		{"/^(?:a{255}){255}/$0$0/", full, 30, api.ErrFuel, 0},
		{"//xy/g", full, 0, api.ErrSize, 0},
		{"//" + strings.Repeat("$0", 2000) + "/g", full, 0, api.OK, api.MaxDoc},
	} {
		got, left, e := Apply(form(t, c.form), c.s, c.fuel)
		if e != c.want || len(got) != c.size || e != api.OK && left != 0 {
			t.Errorf("%.20s: %d bytes, %d", c.form, len(got), e)
		}
	}
	long := full + "c"
	if got, left, e := Apply(form(t, "/^[^a]/x/"), long[:10], 100); got != long[:10] || e != api.OK || left != 100-12 {
		t.Errorf("no match: %d left, %d", left, e)
	}
	never := api.Form{Rx: api.Rx{Kind: api.RxChar, Char: "b"}}
	if got, _, e := Apply(never, "\xff"+strings.Repeat("\x80", api.MaxDoc), 9); len(got) != api.MaxDoc+1 || e != api.OK {
		t.Errorf("no match in a text beyond MaxDoc: %d, %d", len(got), e)
	}
	one := api.Form{Rx: api.Rx{Kind: api.RxAny}, Fmts: []api.Fmt{}}
	for range 3000 {
		one.Fmts = append(one.Fmts, api.Fmt{Kind: api.FmtPart})
	}
	if _, _, e := Apply(one, "\xff"+strings.Repeat("\x80", api.MaxDoc-1), 9); e != api.ErrSize {
		t.Errorf("a match that is repeated: %d", e)
	}
}

func TestP19_3Reads(t *testing.T) {
	for _, c := range []struct {
		s   string
		at  int
		end int
		rx  string
		out string
	}{
		{"/a/${0:/upcase}/}", 0, 16, "a", "/a/${0:/upcase}/"},
		{"x/a//gi}y", 1, 7, "a", "/a//gi"},
		{"/a//ig}", 0, 6, "a", "/a//gi"},
		{"/a//g}}", 0, 5, "a", "/a//g"},
		{"///}", 0, 3, "", "///"},
		{`/a\/b/c\/d/i}`, 0, 12, "a/b", `/a\/b/c\/d/i`},
		{`/a\\/b/}`, 0, 7, `a\\`, `/a\\/b/`},
		{`/[\/]/x/}`, 0, 8, "[/]", `/[\/]/x/`},
		{`/\\\//x/}`, 0, 8, `\\/`, `/\\\//x/`},
		{"/}/}/}", 0, 5, "}", `/\}/\}/`},
		{"/a/${1:+}/}/}", 0, 10, "a", "/a/${1:+}/"},
	} {
		f, end, ok := Reads(c.s, c.at)
		want, _ := rxread.Read(c.rx)
		if !ok || end != c.end || !rxtree.Same(f.Rx, want) || !May(f) {
			t.Errorf("Reads(%q, %d): %v, %d, %v", c.s, c.at, f, end, ok)
		}
		if out, e := Show(f); out != c.out || e != api.OK {
			t.Errorf("Show of %q: %q", c.s, out)
		}
	}
	long := strings.Repeat("a", api.MaxRx)
	if _, _, ok := Reads("/"+long+"//}", 0); !ok {
		t.Error("a regular expression at the limit")
	}
	for _, c := range []struct {
		s  string
		at int
	}{
		{"", 0}, {"/a//}", -1}, {"/a//}", 5}, {"/a//}", 6}, {"/a//}", math.MinInt}, {"/a//}", 1}, {"a//}", 0}, {"/a//", 0}, {"/a/}", 0}, {"/a", 0}, {"/", 0},
		{"/a//x}", 0}, {"/a//gg}", 0}, {"/a//ii}", 0}, {"/a//gig}", 0}, {"/a//g }", 0}, {"/*//}", 0}, {"/(//}", 0}, {"/a{//}", 0}, {`/a\`, 0}, {`/a\/`, 0}, {`/a\//}`, 0},
		{"x/}", 0}, {"/g}/", 0}, {"/g/}", 0}, {`/\q//}`, 0}, {"/" + long + "a//}", 0}, {"/\x80//}", 0}, {"/a/${1:+/}", 0}, {`/a/b\/}`, 0},
	} {
		if f, end, ok := Reads(c.s, c.at); ok || end != 0 || !same(f, api.Form{}) {
			t.Errorf("Reads(%q, %d): %v, %d", c.s, c.at, f, end)
		}
	}
}

func TestP19_3RoundTrip(t *testing.T) {
	rnd := rand.New(rand.NewSource(23))
	count := 0
	for range 60000 {
		var b strings.Builder
		for range 3 + rnd.Intn(9) {
			b.WriteString([]string{"/", "/", "/", "a", "(b)", "[/]", `\/`, `\\`, "${1:+/}", "$1", "}", "g", "i", "|", "*", "é"}[rnd.Intn(16)])
		}
		s := b.String() + "/}"
		f, end, ok := Reads(s, 0)
		if !ok {
			continue
		}
		count++
		shown, e := Show(f)
		if s[end] != '}' || e != api.OK {
			t.Fatalf("Reads(%q): %d", s, end)
		}
		if rx, _ := rxshow.Show(f.Rx); len(rx) > api.MaxRx {
			continue
		}
		if g, end, ok := Reads(shown+"}", 0); !ok || end != len(shown) || !same(f, g) {
			t.Fatalf("%q is shown as %q and read as %v", s, shown, g)
		}
	}
	if count < 1000 {
		t.Errorf("only %d transforms", count)
	}
}
