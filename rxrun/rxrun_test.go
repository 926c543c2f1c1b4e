package rxrun

import (
	"math"
	"math/rand"
	"regexp"
	"slices"
	"strings"
	"testing"

	"gimlet/api"
	"gimlet/char"
	"gimlet/rxread"
	"gimlet/rxset"
	"gimlet/rxtree"
)

func rx(t *testing.T, s string) api.Rx {
	t.Helper()
	x, e := rxread.Read(s)
	if e != api.OK {
		t.Fatalf("Read(%q): %d", s, e)
	}
	return x
}

func sp(ends ...int) []api.Span {
	var all []api.Span
	for i := 0; i < len(ends); i += 2 {
		all = append(all, api.Span{From: ends[i], To: ends[i+1]})
	}
	return all
}

// ends are the span of a match, followed by its parts.
func ends(m Match) []api.Span {
	return append([]api.Span{m.Span}, m.Parts...)
}

func TestP16_1Ways(t *testing.T) {
	for _, c := range []struct {
		rx   string
		fold bool
		s    string
		at   int
		want []api.Span // none: no match
		used int
	}{
		{"a*?b", false, "aab", 0, sp(0, 3), 5},
		{"a*b", false, "aab", 0, sp(0, 3), 4},
		{"", false, "", 0, sp(0, 0), 0},
		{"a", false, "", 0, nil, 1},
		{"a", false, "A", 0, nil, 1},
		{"a", true, "A", 0, sp(0, 1), 1},
		{"É", true, "é", 0, nil, 1},
		{"(a|ab)(c|bcd)", false, "abcd", 0, sp(0, 4, 0, 1, 1, 4), 7},
		{"(a|ab)(c|bcd)$", false, "abcd", 0, sp(0, 4, 0, 1, 1, 4), 8},
		{"(?:(a)|b)*", false, "ab", 0, sp(0, 2, -1, -1), 11},
		{"(?:(a)|b)*b", false, "ab", 0, sp(0, 2, 0, 1), 13},
		{"(a)*", false, "ab", 0, sp(0, 1, 0, 1), 4},
		{"((a)|b){2}", false, "ab", 0, sp(0, 2, 1, 2, -1, -1), 7},
		{"(a*)*", false, "b", 0, sp(0, 0, -1, -1), 2},
		{"(a*){2}", false, "b", 0, sp(0, 0, 0, 0), 4},
		{"(?:|a)*", false, "aa", 0, sp(0, 2), 6},
		{"(?:|a){1}", false, "aa", 0, sp(0, 0), 1},
		{"(a??)*", false, "aab", 0, sp(0, 2, 1, 2), 6},
		{"a{2,3}", false, "aaaa", 0, sp(0, 3), 3},
		{"a{2,3}?", false, "aaaa", 0, sp(0, 2), 2},
		{"a{2,}", false, "a", 0, nil, 2},
		{"a{0}", false, "a", 0, sp(0, 0), 0},
		{".", false, "\n", 0, nil, 1},
		{".", false, "\n\x80", 0, sp(0, 2), 1},
		{".", false, "\x80\x80a", 0, sp(0, 2), 1},
		{"[^a]", false, "\n", 0, sp(0, 1), 1},
		{"[^a]", false, "", 0, nil, 1},
		{"[^a-z]", true, "B", 0, nil, 1},
		{"[A-F]", true, "b", 0, sp(0, 1), 1},
		{"^a", false, "ba", 1, nil, 1},
		{"^$", false, "", 0, sp(0, 0), 2},
		{"$", false, "a", 0, nil, 1},
		{"$", false, "a\n", 1, nil, 1},
		{`\b`, false, "ab", 0, sp(0, 0), 1},
		{`\b`, false, "ab", 1, nil, 1},
		{`\b`, false, "ab", 2, sp(2, 2), 1},
		{`\B`, false, "ab", 1, sp(1, 1), 1},
		{`\b`, false, "", 0, nil, 1},
		{`\B`, false, "", 0, sp(0, 0), 1},
		{`a\b`, false, "aé", 0, sp(0, 1), 2},
		{`\B`, false, "é-", 2, sp(2, 2), 1},
		{"(?:a|(b)|c)+?c", false, "abc", 0, sp(0, 3, 1, 2), 8},
	} {
		m, left, ok, e := At(rx(t, c.rx), c.fold, c.s, c.at, 100)
		if e != api.OK || left != 100-c.used || ok != (c.want != nil) || ok && !slices.Equal(ends(m), c.want) {
			t.Errorf("%q at %d of %q: %v, %d left, %v, %d", c.rx, c.at, c.s, m, left, ok, e)
		}
		if !ok && (m.Span != api.Span{} || m.Parts != nil) {
			t.Errorf("%q at %d of %q: %v beside no match", c.rx, c.at, c.s, m)
		}
		if _, left, _, e := At(rx(t, c.rx), c.fold, c.s, c.at, c.used); left != 0 || e != api.OK {
			t.Errorf("%q: just enough fuel: %d", c.rx, e)
		}
		if c.used == 0 {
			continue
		}
		if m, left, ok, e := At(rx(t, c.rx), c.fold, c.s, c.at, c.used-1); e != api.ErrFuel || left != 0 || ok || m.Parts != nil {
			t.Errorf("%q: too little fuel: %v, %d, %d", c.rx, m, left, e)
		}
	}
}

func TestP16_1ErrorsAndFuel(t *testing.T) {
	bad, a := api.Rx{Kind: api.RxGroup}, rx(t, "a")
	for _, c := range []struct {
		x        api.Rx
		at, fuel int
		want     api.Errno
	}{
		{bad, -1, 0, api.ErrForm}, {a, -1, 0, api.ErrRange}, {a, 4, 0, api.ErrRange}, {a, 2, 0, api.ErrRange}, {a, 0, 0, api.ErrFuel},
		{a, 1, -5, api.ErrFuel}, {a, 0, math.MinInt, api.ErrFuel}, {a, math.MaxInt, 9, api.ErrRange},
	} {
		m, left, ok, e := At(c.x, false, "aé", c.at, c.fuel)
		n, left2, ok2, f := Find(c.x, false, "aé", c.at, c.fuel)
		if e != c.want || f != c.want || ok || ok2 || left != 0 || left2 != 0 || m.Parts != nil || n.Parts != nil {
			t.Errorf("%d: %d and %d, not %d", c.at, e, f, c.want)
		}
	}
	if _, left, ok, e := At(a, false, "a", 0, math.MaxInt); left != api.MaxFuel-1 || !ok || e != api.OK {
		t.Error("fuel above MaxFuel")
	}
	if _, left, ok, e := At(rx(t, ""), false, "a", 0, -3); left != 0 || !ok || e != api.OK {
		t.Error("fuel below 0")
	}
	if all, left, e := All(bad, false, "", 0); all != nil || left != 0 || e != api.ErrForm {
		t.Error("All of what is not valid")
	}
	if all, left, e := All(a, false, "ba", 2); all != nil || left != 0 || e != api.ErrFuel {
		t.Error("All with too little fuel")
	}
}

func TestP16_2Find(t *testing.T) {
	m, left, ok, e := Find(rx(t, "a"), false, "bba", 0, 10)
	if e != api.OK || !ok || left != 7 || m.From != 2 || m.To != 3 {
		t.Errorf("the example: %v, %d", m, left)
	}
	if m, _, _, _ := Find(rx(t, "a*"), false, "éba", 2, 10); m.Span != (api.Span{From: 2, To: 2}) {
		t.Errorf("an empty match: %v", m)
	}
	if m, left, ok, e := Find(rx(t, "a"), false, "bbb", 1, 10); ok || e != api.OK || left != 7 || m.Parts != nil {
		t.Errorf("no match: %d left", left)
	}
	if m, _, ok, _ := Find(rx(t, "$"), false, "ab\x80", 0, 10); !ok || m.From != 3 {
		t.Errorf("the end: %v", m)
	}
	if _, _, ok, e := Find(rx(t, "a"), false, "bba", 0, 2); ok || e != api.ErrFuel {
		t.Error("the places share the fuel")
	}
}

func TestP16_2All(t *testing.T) {
	for _, c := range []struct {
		rx, s string
		want  [][]api.Span
		used  int
	}{
		{"(a)|b", "ab", [][]api.Span{sp(0, 1, 0, 1), sp(1, 2, -1, -1)}, 8},
		{"a*", "aa", [][]api.Span{sp(0, 2), sp(2, 2)}, 4},
		{"a*", "baéa", [][]api.Span{sp(0, 0), sp(1, 2), sp(2, 2), sp(4, 5), sp(5, 5)}, 7},
		{"", "é", [][]api.Span{sp(0, 0), sp(2, 2)}, 0},
		{"", "", [][]api.Span{sp(0, 0)}, 0},
		{"a", "", nil, 1},
		{"a", "aa", [][]api.Span{sp(0, 1), sp(1, 2)}, 3},
		{"^a", "aa", [][]api.Span{sp(0, 1)}, 4},
	} {
		all, left, e := All(rx(t, c.rx), false, c.s, 50)
		var got [][]api.Span
		for _, m := range all {
			got = append(got, ends(m))
		}
		if e != api.OK || 50-left != c.used || !slices.EqualFunc(got, c.want, slices.Equal) {
			t.Errorf("All of %q in %q: %v, %d used, %d", c.rx, c.s, got, 50-left, e)
		}
	}
}

// model matches by continuations, as the chapter is written; it panics with ErrFuel.
type model struct {
	s     string
	fold  bool
	fuel  int
	names map[*api.Rx]int
	parts []api.Span
}

func (m *model) number(x *api.Rx) {
	if x.Kind == api.RxGroup {
		m.names[x] = len(m.parts)
		m.parts = append(m.parts, unset())
	}
	for i := range x.Kids {
		m.number(&x.Kids[i])
	}
}

func (m *model) word(at int, back bool) bool {
	places := char.Places(m.s)
	i := slices.Index(places, at)
	if back {
		return i > 0 && char.Word(m.s[places[i-1]:at])
	}
	return char.Word(char.First(m.s[at:]))
}

func (m *model) try(x *api.Rx, at int, then func(at int) bool) bool {
	if x.Kind != api.RxSeq && x.Kind != api.RxAlt && x.Kind != api.RxRepeat {
		if m.fuel == 0 {
			panic(api.ErrFuel)
		}
		m.fuel--
	}
	c := char.First(m.s[at:])
	switch x.Kind {
	case api.RxSeq:
		return m.row(x.Kids, at, then)
	case api.RxAlt:
		for i := range x.Kids {
			if m.try(&x.Kids[i], at, then) {
				return true
			}
		}
		return false
	case api.RxRepeat:
		return m.repeat(x, 0, at, then)
	case api.RxGroup:
		g := m.names[x]
		return m.try(&x.Kids[0], at, func(end int) bool {
			kept := m.parts[g]
			m.parts[g] = api.Span{From: at, To: end}
			if then(end) {
				return true
			}
			m.parts[g] = kept
			return false
		})
	case api.RxBare:
		return m.try(&x.Kids[0], at, then)
	case api.RxFirst:
		return at == 0 && then(at)
	case api.RxLast:
		return at == len(m.s) && then(at)
	case api.RxEdge:
		return m.word(at, true) != m.word(at, false) && then(at)
	case api.RxInner:
		return m.word(at, true) == m.word(at, false) && then(at)
	case api.RxAny:
		return c != "" && c != "\n" && then(at+len(c))
	case api.RxSet:
		return c != "" && rxset.Has(x.Rows, x.Not, m.fold, c) && then(at+len(c))
	}
	return c != "" && (c == x.Char || m.fold && char.Fold(c) == char.Fold(x.Char)) && then(at+len(c))
}

func (m *model) row(xs []api.Rx, at int, then func(at int) bool) bool {
	if len(xs) == 0 {
		return then(at)
	}
	return m.try(&xs[0], at, func(at int) bool { return m.row(xs[1:], at, then) })
}

func (m *model) repeat(x *api.Rx, n int, at int, then func(at int) bool) bool {
	more := func() bool {
		if x.Max >= 0 && n == x.Max {
			return false
		}
		kept := slices.Clone(m.parts)
		m.clear(&x.Kids[0])
		if m.try(&x.Kids[0], at, func(end int) bool { return (n < x.Min || end > at) && m.repeat(x, n+1, end, then) }) {
			return true
		}
		copy(m.parts, kept)
		return false
	}
	if n < x.Min {
		return more()
	}
	if x.Lazy {
		return then(at) || more()
	}
	return more() || then(at)
}

func (m *model) clear(x *api.Rx) {
	if x.Kind == api.RxGroup {
		m.parts[m.names[x]] = unset()
	}
	for i := range x.Kids {
		m.clear(&x.Kids[i])
	}
}

func modelAt(x *api.Rx, fold bool, s string, at int, fuel int) (match []api.Span, left int, e api.Errno) {
	m := &model{s: s, fold: fold, fuel: fuel, names: map[*api.Rx]int{}}
	m.number(x)
	defer func() {
		if recover() != nil {
			match, left, e = nil, 0, api.ErrFuel
		}
	}()
	end := -1
	if m.try(x, at, func(at int) bool { end = at; return true }) {
		match = append(sp(at, end), m.parts...)
	}
	return match, m.fuel, api.OK
}

func randomPattern(rnd *rand.Rand, depth int) string {
	if depth == 0 {
		return []string{"a", "b", ".", `\b`, `\B`, "^", "$", "[ab]", "[^a]", "é", "", `\w`}[rnd.Intn(12)]
	}
	kid := func() string { return randomPattern(rnd, depth-1) }
	quantifier := []string{"*", "+", "?", "{2}", "{1,2}", "{0,1}", "{2,}", "*?", "+?", "??", "{0,2}?", "{1,}?"}[rnd.Intn(12)]
	switch rnd.Intn(6) {
	case 0:
		return "(" + kid() + ")" + quantifier
	case 1:
		return "(?:" + kid() + "|" + kid() + ")" + quantifier
	case 2:
		return kid() + kid()
	case 3:
		return kid() + "|" + kid()
	case 4:
		return "(" + kid() + "|" + kid() + ")"
	}
	return "a" + quantifier + kid()
}

func TestP16_1AgainstTheModel(t *testing.T) {
	rnd := rand.New(rand.NewSource(19))
	dryRuns, matches := 0, 0
	for range 30000 {
		pattern := randomPattern(rnd, 1+rnd.Intn(4))
		x, e := rxread.Read(pattern)
		if e != api.OK {
			continue
		}
		var b strings.Builder
		for range rnd.Intn(8) {
			b.WriteString([]string{"a", "a", "b", "A", "é", "\n", " ", "\x80"}[rnd.Intn(8)])
		}
		s, fold, fuel := b.String(), rnd.Intn(2) == 0, rnd.Intn(2)*380+rnd.Intn(20)
		for _, at := range char.Places(s) {
			want, left, e := modelAt(&x, fold, s, at, fuel)
			m, gotLeft, ok, f := At(x, fold, s, at, fuel)
			if e != f || gotLeft != left || ok != (want != nil) || ok && !slices.Equal(ends(m), want) {
				t.Fatalf("%q at %d of %q with %d: %v, %d, %d, not %v, %d, %d", pattern, at, s, fuel, m, gotLeft, f, want, left, e)
			}
			if e == api.ErrFuel {
				dryRuns++
			}
			if ok {
				matches++
			}
		}
	}
	if dryRuns < 500 || matches < 10000 {
		t.Errorf("%d dry runs, %d matches", dryRuns, matches)
	}
}

// Where nothing empty is repeated, Go's own expressions find the same stretch.
func TestP16_2AgainstRegexp(t *testing.T) {
	rnd := rand.New(rand.NewSource(20))
	count := 0
	for range 4000 {
		pattern := randomPattern(rnd, 1+rnd.Intn(3))
		x, e := rxread.Read(pattern)
		if e != api.OK || repeatsEmpty(x) {
			continue
		}
		g, err := regexp.Compile(pattern)
		if err != nil {
			continue
		}
		var b strings.Builder
		for range rnd.Intn(9) {
			b.WriteString([]string{"a", "a", "b", "é", "\n", " "}[rnd.Intn(6)])
		}
		s := b.String()
		m, _, ok, f := Find(x, false, s, 0, api.MaxFuel)
		if loc := g.FindStringIndex(s); f != api.OK || ok != (loc != nil) || ok && (m.From != loc[0] || m.To != loc[1]) {
			t.Fatalf("%q in %q: %v, %v, not %v", pattern, s, m, ok, loc)
		}
		count++
	}
	if count < 1000 {
		t.Errorf("only %d patterns", count)
	}
}

func repeatsEmpty(x api.Rx) bool {
	if x.Kind == api.RxRepeat && x.Kids[0].Kind != api.RxChar {
		return true
	}
	return slices.ContainsFunc(x.Kids, repeatsEmpty)
}

func TestP16_3Ends(t *testing.T) {
	long := strings.Repeat("a", api.MaxDoc)
	for _, pattern := range []string{
		"(a*)*b", "(?:a|aa)*b", "((((a*)*)*)*)*b", ".*.*.*.*x", "(a?){255}", "(?:(?:a{255}){255}){255}", "((|||)(|||))*b", "(?:()|(a)|(b)){9}", "a*?$",
	} {
		x, e := rxread.Read(pattern)
		if e != api.OK {
			continue
		}
		if _, left, _, e := Find(x, true, long, 0, api.MaxFuel); e != api.OK && e != api.ErrFuel || left < 0 {
			t.Errorf("%q: %d", pattern, e)
		}
	}
	empties := api.Rx{Kind: api.RxAlt, Kids: make([]api.Rx, 300)}
	x := api.Rx{Kind: api.RxRepeat, Max: -1, Kids: []api.Rx{{Kind: api.RxBare, Kids: []api.Rx{empties}}}}
	if _, left, ok, e := At(x, false, long, 0, 5); !ok || left != 4 || e != api.OK {
		t.Errorf("a repetition of nothing: %d left, %d", left, e)
	}
	all, left, e := All(rx(t, ""), false, long, 0)
	if len(all) != api.MaxDoc+1 || left != 0 || e != api.OK {
		t.Errorf("All of an empty pattern: %d", len(all))
	}
	if _, _, _, e := At(rx(t, "[^b]*x"), true, "a"+strings.Repeat("\x80", api.MaxDoc), 0, api.MaxFuel); e != api.OK {
		t.Error(e)
	}
	all, _, _ = All(rx(t, "(a)"), false, "aa", 9)
	all[0].Parts[0].From = 7
	if all[1].Parts[0].From != 1 {
		t.Error("R4: the matches share their parts")
	}
}

func TestP16_1ValidTreesOnly(t *testing.T) {
	if rxtree.May(api.Rx{Kind: api.RxSeq, Kids: make([]api.Rx, 1)}) {
		t.Fatal("a sequence of one")
	}
	if _, _, _, e := Find(api.Rx{Kind: api.RxSeq, Kids: make([]api.Rx, 1)}, false, "", 5, 5); e != api.ErrForm {
		t.Error(e)
	}
}
