package flat

import (
	"math/rand"
	"slices"
	"strconv"
	"strings"
	"testing"

	"gimlet/api"
	"gimlet/span"
	"gimlet/sread"
	"gimlet/xform"
)

func read(t *testing.T, s string) []api.Snip {
	t.Helper()
	l, e := sread.Read(s)
	if e != api.OK {
		t.Fatalf("Read(%q): %d", s, e)
	}
	return l
}

// tell writes stops in a short form: number, ends, what it lies in, F for First, T for Turned, options.
func tell(stops []api.Stop) string {
	var all []string
	for _, s := range stops {
		one := strconv.Itoa(s.N) + ":" + strconv.Itoa(s.From) + "-" + strconv.Itoa(s.To)
		if s.Up != -1 {
			one += "^" + strconv.Itoa(s.Up)
		}
		if s.First {
			one += "F"
		}
		if s.Turned {
			one += "T"
		}
		if len(s.Opts) > 0 {
			one += "[" + strings.Join(s.Opts, ",") + "]"
		}
		all = append(all, one)
	}
	return strings.Join(all, " ")
}

func TestP25_Texts(t *testing.T) {
	env := []api.Pair{{Name: "A", Value: "val"}, {Name: "A", Value: "x"}, {Name: "E", Value: ""}, {Name: "L", Value: "p\n\tq"}}
	for _, c := range [][3]string{
		{"${1:ab}-$1", "ab-ab", "1:0-2F 1:3-5 0:5-5F"},
		{"$X", "X", "1:0-1F 0:1-1F"},
		{"", "", "0:0-0F"},
		{"abc", "abc", "0:3-3F"},
		{"a$0b", "ab", "0:1-1F"},
		{"${0:x}y$0", "xyx", "0:0-1F 0:2-3"},
		{"$1-${1:ab}-$1", "ab-ab-ab", "1:0-2 1:3-5F 1:6-8 0:8-8F"},
		{"${1:a}${1:b}${1|c,d|}", "aaa", "1:0-1F 1:1-2 1:2-3 0:3-3F"},
		{"${1|c,d|}${1:b}$1", "ccc", "1:0-1F[c,d] 1:1-2 1:2-3 0:3-3F"},
		{"$2$2", "", "2:0-0F 2:0-0 0:0-0F"},
		{"${1:a${2:b}c}$2", "abcb", "1:0-3F 2:1-2^0F 2:3-4 0:4-4F"},
		{"${1:$2}-${2:b}", "b-b", "1:0-1F 2:0-1^0 2:2-3F 0:3-3F"},
		{"${1:a${2:b${3:c}d}e}", "abcde", "1:0-5F 2:1-4^0F 3:2-3^1F 0:5-5F"},
		{"${1:x}${1:${2:y}}$2", "xx", "1:0-1F 1:1-2 2:2-2F 0:2-2F"},
		{"${1:x${1:y}", "${1:xy", "1:5-6F 0:6-6F"},
		{"${1/a/b/}${1:ca}", "cbca", "1:0-2T 1:2-4F 0:4-4F"},
		{"${1/^$/none/}$1", "none", "1:0-4T 1:4-4F 0:4-4F"},
		{"${1/^$/none/}", "none", "1:0-4T 0:4-4F"},
		{"${0/^$/z/}", "z", "0:0-1T 0:1-1F"},
		{"${1:a${2/x/y/}}${2:x}", "ayx", "1:0-2F 2:1-2^0T 2:2-3F 0:3-3F"},
		{"$A${A:d}${A/a/b/}$E|", "valvalvbl|", "0:10-10F"},
		{"${E:d}|${E/^$/n/}", "|n", "0:2-2F"},
		{"$UUID${UUID:d$1}${CLIPBOARD/^$/c/}", "dc", "1:1-1F 0:2-2F"},
		{"${X:d${1:e}}$1", "dee", "1:1-2F 1:2-3 0:3-3F"},
		{"${X/a/b/}${X/^/c/}", "c", "0:1-1F"},
		{"$X$3$Y$X", "XYX", "4:0-1F 3:1-1F 5:1-2F 4:2-3 0:3-3F"},
		{"${1:$X}$X", "XX", "1:0-1F 2:0-1^0F 2:1-2 0:2-2F"},
		{"${1:a}${1:$7$X}$Q", "aaQ", "1:0-1F 1:1-2 2:2-3F 0:3-3F"},
		{"${X:${Y:${1:z}}}$Y", "zY", "1:0-1F 2:1-2F 0:2-2F"},
		{"${X:${X:$X}}", "X", "1:0-1F 0:1-1F"},
		{"a\n\tb$1\n$L", "a\n--..b\n--p\n\tq", "1:7-7F 0:14-14F"},
		{"${1|a\n\tb,c\n|}$1", "a\n--..ba\n--..b", "1:0-7F[a\n--..b,c\n--] 1:7-14 0:14-14F"},
		{"\n${1:\t}\tx", "\n--\t\tx", "1:3-4F 0:6-6F"}, // a tab follows a line feed of its own text alone
		{"${9999:a}$X", "aX", "9999:0-1F 10000:1-2F 0:2-2F"},
		{"${1||}", "", "1:0-0F[] 0:0-0F"},
	} {
		text, stops, e := Make(read(t, c[0]), env, "--", "..")
		if e != api.OK || text != c[1] || tell(stops) != c[2] {
			t.Errorf("Make of %q: %q, %s, %d", c[0], text, tell(stops), e)
		}
	}
}

func TestP25_1Refused(t *testing.T) {
	many := func(n int) string { return strings.Repeat("$1", n) }
	big := []api.Pair{{Name: "B", Value: strings.Repeat("b", api.MaxDoc)}, {Name: "C", Value: strings.Repeat("c", 30000)}}
	slow := "${1/(a*)*b/x/}"
	for _, c := range []struct {
		s    string
		want api.Errno
	}{
		{"${1:$2}${2:$1}", api.ErrLoop},
		{"${1:$1}", api.ErrLoop},
		{"${1:${1:a}}", api.ErrLoop},
		{"${1:a${1/x/y/}}", api.ErrLoop},
		{"${1:${2:${3:$1}}}", api.ErrLoop},
		{"${1:a${2:$1}}", api.ErrLoop},
		{"${1:${X:$1}}", api.ErrLoop},
		{"${1:${2|a|}}${2:$1}", api.OK},
		{"${1:a}${1:$1}", api.OK},
		{"${1:${B:$1}}", api.OK},
		{"${1:$2}${2:$3}${3:$1}" + many(300), api.ErrLoop},
		{many(256), api.OK},
		{many(257), api.ErrFull},
		{many(256) + "$X", api.ErrFull},
		{many(256) + "${1:$2}", api.ErrFull},
		{"$B" + many(257), api.ErrFull},
		{"$B", api.OK},
		{"$B$0", api.OK},
		{"$Bx", api.OK}, // the name is Bx
		{"${B}x", api.ErrSize},
		{"${1:${B}x}", api.ErrSize},
		{"${1:$B}${1/b/cc/}", api.ErrSize},
		{"${1:$C}$1$1", api.ErrSize},
		{"${1:$C$C$C}", api.ErrSize},
		{"${1:$C}" + slow, api.ErrFuel},
		{"${1:cccc}" + slow, api.OK},
		{"${1:aaaaaaaaaaaaaaaaaaaaaaaaaaaa}" + slow, api.ErrFuel},
		{"${B}x${1:aaaaaaaaaaaaaaaaaaaaaaaaaaaa}" + slow, api.ErrSize},
		{"${1:aaaaaaaaaaaaaaaaaaaaaaaaaaaa}" + slow + "${B}", api.ErrFuel},
		{"$C$C${2:$C" + slow + "}${1:aaaaaaaaaaaaaaaaaaaaaaaaaaaa}", api.ErrFuel},
		{slow + "${1:aaaaaaaaaaaaaaaaaaaaaaaaaaaa${B}x}", api.ErrSize},
		{"${2:$3}${B}x${3:" + "${B}x}", api.ErrSize},
	} {
		text, stops, e := Make(read(t, c.s), big, "", "")
		if e != c.want || e != api.OK && (text != "" || stops != nil) {
			t.Errorf("Make of %.40q: %d bytes, %d, not %d", c.s, len(text), e, c.want)
		}
	}
	for _, l := range [][]api.Snip{{{Kind: api.SnText}}, {{Kind: api.SnStop, N: -1}}, {{Kind: 9}}} {
		if _, _, e := Make(l, nil, "", ""); e != api.ErrForm {
			t.Errorf("a tree that is not valid: %d", e)
		}
	}
}

func TestP25_1SizeIsFoundSoon(t *testing.T) {
	far := strings.Repeat(" ", api.MaxDoc)
	if _, _, e := Make(read(t, strings.Repeat("\n", api.MaxSnip)), nil, far, ""); e != api.ErrSize {
		t.Error(e)
	}
	if _, _, e := Make(read(t, "\n"+strings.Repeat("\t", api.MaxSnip-1)), nil, "", far); e != api.ErrSize {
		t.Error(e)
	}
	if _, _, e := Make(read(t, "${1|"+strings.Repeat("\n", 8000)+"|}"), nil, far, ""); e != api.ErrSize {
		t.Error(e)
	}
	text, _, e := Make(read(t, "\n"), nil, far[1:], "")
	if len(text) != api.MaxDoc || e != api.OK {
		t.Error("a text at the limit")
	}
	for _, s := range []string{"\n\t\t\t\t\n\t", "${1|\n\t\t\t\t\n\t|}"} {
		for size, want := range map[int]api.Errno{api.MaxDoc: api.OK, api.MaxDoc + 1: api.ErrSize} {
			lead := strings.Repeat("-", 3000)
			unit := strings.Repeat(".", (size-2*3000-2)/5)
			rest := strings.Repeat("x", size-2*3000-2-5*len(unit))
			if text, _, e := Make(read(t, s+rest), nil, lead, unit); e != want || e == api.OK && len(text) != size {
				t.Errorf("%q and %d bytes, %d in all: %d", s, len(rest), size, e)
			}
		}
	}
	doubling := "${1:aaaaaaaa}"
	for n := 2; n < 40; n++ {
		doubling += "${" + strconv.Itoa(n) + ":$" + strconv.Itoa(n-1) + "$" + strconv.Itoa(n-1) + "}"
	}
	if _, _, e := Make(read(t, doubling), nil, "", ""); e != api.ErrSize {
		t.Error(e)
	}
}

func randomSnippet(rnd *rand.Rand, depth int) string {
	var b strings.Builder
	for range rnd.Intn(5) {
		n := strconv.Itoa(rnd.Intn(5))
		kid := "x"
		if depth > 0 {
			kid = randomSnippet(rnd, depth-1)
		}
		b.WriteString([]string{"a", "\n\tb", "$" + n, "${" + n + ":" + kid + "}", "${" + n + "|u,v|}", "${" + n + "/[a-x]/<$0>/g}", "${V" + n + ":" + kid + "}", "$W" + n, "${V1/v/w/}"}[rnd.Intn(9)])
	}
	return b.String()
}

func TestP25_3Mirrors(t *testing.T) {
	rnd := rand.New(rand.NewSource(28))
	good := 0
	for range 30000 {
		s := randomSnippet(rnd, 3)
		text, stops, e := Make(read(t, s), []api.Pair{{Name: "V1", Value: "v"}}, " ", "..")
		if e == api.ErrLoop {
			continue
		}
		if e != api.OK {
			t.Fatalf("Make of %q: %d", s, e)
		}
		good++
		texts, last := map[int]string{}, map[int]int{}
		for _, x := range stops {
			of := text[x.From:x.To]
			if known, ok := texts[x.N]; !x.Turned && ok && known != of {
				t.Fatalf("%q, number %d: %q and %q", s, x.N, known, of)
			} else if !x.Turned {
				texts[x.N] = of
			}
			up := api.Span{To: len(text)}
			if x.Up >= 0 {
				up = stops[x.Up].Span
			}
			if !span.Within(x.Span, up) || x.From < last[x.Up] {
				t.Fatalf("%q: %s", s, tell(stops))
			}
			last[x.Up] = x.To
		}
		for _, x := range stops {
			if want, _, _ := xform.Apply(x.Form, texts[x.N], api.MaxFuel); x.Turned && want != text[x.From:x.To] {
				t.Fatalf("%q, number %d: %q, not %q", s, x.N, text[x.From:x.To], want)
			}
		}
	}
	if good < 10000 {
		t.Errorf("only %d snippets", good)
	}
}

func TestR4SharesNothing(t *testing.T) {
	l := read(t, "${1|a,b|}${1/[a-b]/$0/}")
	_, stops, _ := Make(l, nil, "", "")
	stops[0].Opts[0] = "z"
	stops[1].Form.Rx.Rows[0].To = "z"
	stops[1].Form.Fmts[0].N = 7
	if again := read(t, "${1|a,b|}${1/[a-b]/$0/}"); !slices.Equal(l[0].Opts, again[0].Opts) || l[1].Form.Fmts[0].N != 0 || l[1].Form.Rx.Rows[0].To != "b" {
		t.Error("the stops share memory with the tree")
	}
}
