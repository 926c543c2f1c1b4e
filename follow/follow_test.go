package follow

import (
	"math"
	"math/rand"
	"slices"
	"strconv"
	"strings"
	"testing"

	"gimlet/api"
	"gimlet/deep"
	"gimlet/flat"
	"gimlet/sread"
	"gimlet/stops"
	"gimlet/xform"
)

func sp(from, to int) api.Span { return api.Span{From: from, To: to} }

func ed(from, to int, text string) api.Edit { return api.Edit{Span: sp(from, to), Text: text} }

func st(from, to, n, up int) api.Stop { return api.Stop{Span: sp(from, to), N: n, Up: up} }

func inst(from, to int, l ...api.Stop) api.Inst { return api.Inst{Span: sp(from, to), Stops: l} }

// after returns the state after the insertion of a snippet into an empty text; its Cur is the first number.
func after(t *testing.T, snippet string) api.State {
	t.Helper()
	l, e := sread.Read(snippet)
	text, all, f := flat.Make(l, nil, "", "")
	if e != api.OK || f != api.OK {
		t.Fatalf("%q: %d, %d", snippet, e, f)
	}
	i := api.Inst{Span: sp(0, len(text)), Stops: all}
	cur := stops.Numbers(i)[0]
	return api.State{Text: text, Sels: []api.Sel{{}}, Sessions: []api.Session{{Cur: cur, Insts: []api.Inst{i}}}}
}

// tell writes the stops of a session: number, ends, what it lies in.
func tell(s api.Session) string {
	var all []string
	for _, i := range s.Insts {
		all = append(all, strconv.Itoa(i.From)+"-"+strconv.Itoa(i.To)+":")
		for _, x := range i.Stops {
			one := strconv.Itoa(x.N) + "@" + strconv.Itoa(x.From) + "-" + strconv.Itoa(x.To)
			if x.Up >= 0 {
				one += "^" + strconv.Itoa(x.Up)
			}
			all = append(all, one)
		}
	}
	return strings.Join(all, " ")
}

func TestP27_1May(t *testing.T) {
	good := func() api.State {
		return api.State{Text: "0123456789", Sels: []api.Sel{{Anchor: 2, Head: 1}, {Anchor: 5, Head: 5}}, Sessions: []api.Session{
			{Cur: 1, Insts: []api.Inst{inst(0, 4, st(1, 3, 1, -1)), inst(4, 9, st(5, 9, 1, -1), st(9, 9, 2, -1))}},
			{Cur: 7, Insts: []api.Inst{inst(2, 3, st(2, 2, 7, -1)), inst(5, 5), inst(6, 9)}},
			{Cur: 0, Insts: []api.Inst{inst(2, 2)}},
		}}
	}
	if !May(good()) {
		t.Error("a valid state")
	}
	for k, change := range []func(s *api.State){
		func(s *api.State) { s.Sels = nil }, func(s *api.State) { s.Sels[0] = api.Sel{Anchor: 0, Head: 5} }, func(s *api.State) { s.Sels[1].Head = 11 },
		func(s *api.State) { slices.Reverse(s.Sels) }, func(s *api.State) { s.Text = strings.Repeat("x", api.MaxDoc+1) }, func(s *api.State) { s.Text = s.Text[:8] },
		func(s *api.State) { s.Sessions[1].Insts = nil }, func(s *api.State) { s.Sessions[0].Insts[1].Stops[0].From = 3 }, func(s *api.State) { s.Sessions[0].Insts[1].From = 3 },
		func(s *api.State) { slices.Reverse(s.Sessions[0].Insts) }, func(s *api.State) { s.Sessions[0].Cur = 2 }, func(s *api.State) { s.Sessions[0].Insts[0].Stops[0].Turned = true },
		func(s *api.State) { s.Sessions[1].Insts[0].From = 0 }, func(s *api.State) { s.Sessions[2].Insts[0] = inst(2, 3) }, func(s *api.State) { s.Sessions[1].Cur = 8 },
		func(s *api.State) { s.Sels = make([]api.Sel, 65) },
	} {
		s := good()
		change(&s)
		if May(s) {
			t.Errorf("change %d is not seen", k)
		}
		if got, e := Do(s, ed(99, 0, "")); e != api.ErrArg || !deep.SameState(got, api.State{}) {
			t.Errorf("Do after change %d: %d", k, e)
		}
	}
	many := api.State{Text: "a", Sels: []api.Sel{{}}}
	for range api.MaxSessions {
		many.Sessions = append(many.Sessions, api.Session{Cur: 1, Insts: []api.Inst{inst(0, 1, st(0, 1, 1, -1))}})
	}
	if !May(many) {
		t.Error("MaxSessions sessions")
	}
	many.Sessions = append(many.Sessions, many.Sessions[0])
	if bare := (api.State{Sels: []api.Sel{{}}, Sessions: []api.Session{{Cur: 1}}}); May(bare) {
		t.Error("a session without instances")
	}
	if !May(api.State{Text: strings.Repeat("x", api.MaxDoc), Sels: []api.Sel{{}}}) {
		t.Error("a text at the limit")
	}
	if May(many) || !May(api.State{Sels: []api.Sel{{}}}) {
		t.Error("one too many; an empty text")
	}
}

func TestP27_1OwnerStays(t *testing.T) {
	s := after(t, "${1:ab}-$1").Sessions[0]
	for at, want := range map[api.Span][2]int{sp(2, 2): {0, 0}, sp(0, 2): {0, 0}, sp(2, 3): {-1, -1}, sp(3, 5): {0, 1}, sp(5, 6): {-1, -1}, sp(0, 5): {-1, -1}} {
		if k, j := Owner(s, at); k != want[0] || j != want[1] || Stays(s, api.Edit{Span: at}) != (want[0] >= 0) {
			t.Errorf("Owner of %v: %d, %d", at, k, j)
		}
	}
	s = api.Session{Cur: 1, Insts: []api.Inst{inst(0, 9, st(0, 1, 2, -1), api.Stop{Span: sp(1, 9), N: 1, Up: -1, Turned: true}), inst(0, 9, st(0, 9, 2, -1), st(1, 5, 1, 0), st(1, 5, 1, 1))}}
	if k, j := Owner(s, sp(2, 3)); k != 1 || j != 1 {
		t.Errorf("Owner: %d, %d", k, j)
	}
	if !Stays(s) || !Stays(s, ed(1, 2, ""), ed(4, 5, "")) || Stays(s, ed(1, 2, ""), ed(6, 7, "")) {
		t.Error("Stays")
	}
}

func TestP27_2Shift(t *testing.T) {
	two := api.Session{Cur: 1, Insts: []api.Inst{inst(0, 4, st(0, 2, 1, -1), st(2, 2, 2, -1), st(2, 4, 3, -1)), inst(4, 8, st(5, 7, 1, -1))}}
	nest := api.Session{Cur: 1, Insts: []api.Inst{inst(1, 9, st(1, 9, 1, -1), st(1, 4, 2, 0), st(2, 3, 3, 1), st(4, 4, 4, 0), st(4, 7, 5, 0), st(9, 9, 6, 0))}}
	for k, c := range []struct {
		s          api.Session
		inst, stop int
		e          api.Edit
		want       string
	}{
		// Who owns an edit decides to which side what lies at its ends goes.
		{two, 0, 0, ed(2, 2, "x"), "0-5: 1@0-3 2@3-3 3@3-5 5-9: 1@6-8"},
		{two, 0, 1, ed(2, 2, "x"), "0-5: 1@0-2 2@2-3 3@3-5 5-9: 1@6-8"},
		{two, 0, 2, ed(2, 2, "x"), "0-5: 1@0-2 2@2-2 3@2-5 5-9: 1@6-8"},
		{two, 0, 2, ed(4, 4, "x"), "0-5: 1@0-2 2@2-2 3@2-5 5-9: 1@6-8"},
		{two, 1, 0, ed(5, 7, "x"), "0-4: 1@0-2 2@2-2 3@2-4 4-7: 1@5-6"},
		{two, 0, 0, ed(0, 2, ""), "0-2: 1@0-0 2@0-0 3@0-2 2-6: 1@3-5"},
		// Nothing owns it.
		{two, -1, -1, ed(4, 4, "xy"), "0-4: 1@0-2 2@2-2 3@2-4 6-10: 1@7-9"},
		{two, -1, 0, ed(3, 5, "xy"), ""},
		{two, 0, 7, ed(3, 4, ""), "3-7: 1@4-6"},
		{two, 2, 0, ed(8, 9, "x"), "0-4: 1@0-2 2@2-2 3@2-4 4-8: 1@5-7"},
		{two, math.MinInt, math.MaxInt, ed(1, 1, "x"), "5-9: 1@6-8"},
		// Stops in the owner.
		{nest, 0, 0, ed(2, 3, "xyz"), "1-11: 1@1-11 2@1-6^0 3@2-5^1 4@6-6^0 5@6-9^0 6@11-11^0"},
		{nest, 0, 0, ed(2, 2, "x"), "1-10: 1@1-10 2@1-5^0 3@3-4^1 4@5-5^0 5@5-8^0 6@10-10^0"},
		{nest, 0, 0, ed(4, 4, "x"), "1-10: 1@1-10 2@1-4^0 3@2-3^1 4@5-5^0 5@5-8^0 6@10-10^0"},
		{nest, 0, 0, ed(3, 5, "x"), "1-8: 1@1-8 6@8-8^0"},
		{nest, 0, 0, ed(4, 5, ""), "1-8: 1@1-8 2@1-4^0 3@2-3^1 4@4-4^0 5@4-6^0 6@8-8^0"},
		{nest, 0, 0, ed(1, 9, "x"), "1-2: 1@1-2 6@2-2^0"},
		{nest, 0, 0, ed(9, 9, "x"), "1-10: 1@1-10 2@1-4^0 3@2-3^1 4@4-4^0 5@4-7^0 6@10-10^0"},
		{nest, 0, 5, ed(9, 9, "x"), "1-10: 1@1-10 2@1-4^0 3@2-3^1 4@4-4^0 5@4-7^0 6@9-10^0"},
		{nest, 0, 2, ed(3, 3, "x"), "1-10: 1@1-10 2@1-5^0 3@2-4^1 4@5-5^0 5@5-8^0 6@10-10^0"},
	} {
		kept := deep.Session(c.s)
		got := Shift(c.s, c.inst, c.stop, c.e)
		if tell(got) != c.want || got.Cur != 1 || !deep.SameSession(c.s, kept) {
			t.Errorf("case %d: %s, not %s", k, tell(got), c.want)
		}
	}
}

func TestP27_2EmptyInstances(t *testing.T) {
	s := api.Session{Cur: 1, Insts: []api.Inst{inst(2, 2, st(2, 2, 1, -1)), inst(2, 4, st(2, 4, 1, -1)), inst(4, 4, st(4, 4, 1, -1))}}
	for k, c := range []struct {
		inst int
		e    api.Edit
		want string
	}{
		{1, ed(2, 4, "x"), "2-2: 1@2-2 2-3: 1@2-3 3-3: 1@3-3"},
		{0, ed(2, 2, "x"), "2-3: 1@2-3 3-5: 1@3-5 5-5: 1@5-5"},
		{2, ed(4, 4, "x"), "2-2: 1@2-2 2-4: 1@2-4 4-5: 1@4-5"},
		{-1, ed(2, 4, "x"), "2-2: 1@2-2 3-3: 1@3-3"},
		{-1, ed(2, 2, "x"), "2-2: 1@2-2 3-5: 1@3-5 5-5: 1@5-5"},
	} {
		if got := Shift(s, c.inst, 0, c.e); tell(got) != c.want {
			t.Errorf("case %d: %s, not %s", k, tell(got), c.want)
		}
	}
}

func TestP27_2AgainstTheModel(t *testing.T) {
	rnd := rand.New(rand.NewSource(30))
	for range 20000 {
		state := randomState(rnd)
		if len(state.Sessions) == 0 {
			continue
		}
		s := state.Sessions[rnd.Intn(len(state.Sessions))]
		from := rnd.Intn(len(state.Text) + 1)
		e := ed(from, from+rnd.Intn(len(state.Text)-from+1), "xyz"[:rnd.Intn(4)])
		oi, oj := -1, -1
		switch rnd.Intn(4) {
		case 0, 1:
			oi, oj = Owner(s, e.Span)
		case 2: // a stop that is far from the edit, perhaps
			oi = rnd.Intn(len(s.Insts))
			if oj = rnd.Intn(len(s.Insts[oi].Stops)+1) - 1; oj < 0 {
				oi = -1
			}
		}
		if got, want := Shift(s, oi, oj, e), modelShift(s, oi, oj, e, false, nil); !deep.SameSession(got, want) {
			t.Fatalf("%s, %v, owner %d, %d: %s, not %s", tell(s), e, oi, oj, tell(got), tell(want))
		}
	}
}

func TestP27_3Examples(t *testing.T) {
	for k, c := range []struct {
		snippet string
		es      []api.Edit
		text    string
		left    int
	}{
		{"${1:ab}-$1", []api.Edit{ed(2, 2, "c")}, "abc-abc", 1},
		{"${1:ab}-$1", []api.Edit{ed(2, 3, "x")}, "abxab", 0},
		{"${1:ab}-$1", []api.Edit{ed(4, 5, "x")}, "ax-ax", 1},
		{"${1:ab}-$1", []api.Edit{ed(0, 0, "x"), ed(5, 5, "y")}, "xab-xab", 1},
		{"${1:ab}-$1", nil, "ab-ab", 1},
		{"${1:ab}-${1/b/<$0>/g}-$1", []api.Edit{ed(0, 2, "bb")}, "bb-<b><b>-bb", 1},
		{"$1-$1", []api.Edit{ed(0, 0, "x")}, "x-x", 1},
		{"$1$1$1", []api.Edit{ed(0, 0, "x")}, "xxx", 1},
		{"${1:a${2:b}c}$2", []api.Edit{ed(1, 2, "x")}, "axcx", 1},
		{"${1:a${2:b}c}$2", []api.Edit{ed(0, 3, "x")}, "xb", 1},
		{"${1:a${2:b}c}$2$1", []api.Edit{ed(1, 2, "x")}, "axcxaxc", 1},
		{"${1:x}${2:$1}-${2/x/y/}", []api.Edit{ed(0, 1, "xx")}, "xxxx-yx", 1},
		{"${1:ab}-$1", []api.Edit{ed(0, 0, "a"), ed(3, 3, "b")}, "aab-aab", 1},
	} {
		state := after(t, c.snippet)
		kept := deep.State(state)
		got, e := Do(state, c.es...)
		if e != api.OK || got.Text != c.text || len(got.Sessions) != c.left || !May(got) {
			t.Errorf("case %d: %q, %d sessions, %d", k, got.Text, len(got.Sessions), e)
		}
		if !deep.SameState(state, kept) {
			t.Errorf("case %d: R4: the argument is changed", k)
		}
	}
}

func TestP27_3Errors(t *testing.T) {
	state := after(t, "${1:ab}-$1$1${1/a*b/x/}")
	full := strings.Repeat("a", api.MaxDoc)
	slow := after(t, "$1${1/(a*)*b/x/}")
	grows := after(t, "$1${1/^.*$/$0$0$0/}")
	for k, c := range []struct {
		st   api.State
		es   []api.Edit
		want api.Errno
	}{
		{state, []api.Edit{ed(0, 2, ""), ed(1, 99, "")}, api.ErrRange}, {state, []api.Edit{ed(0, 2, full), ed(1, 2, "")}, api.ErrOverlap},
		{state, []api.Edit{ed(0, 1, full)}, api.ErrSize}, {state, []api.Edit{ed(0, 2, full[:22000])}, api.ErrSize}, {state, []api.Edit{ed(0, 2, full[:21845])}, api.ErrSize},
		{slow, []api.Edit{ed(0, 0, "aaaaaaaaaaaaaaaaaaaaaaaaaaaaaa")}, api.ErrFuel}, {slow, []api.Edit{ed(0, 0, "aaab")}, api.OK},
		{grows, []api.Edit{ed(0, 0, full[:19000])}, api.ErrSize}, {grows, []api.Edit{ed(0, 0, full[:16384])}, api.OK}, {grows, []api.Edit{ed(0, 0, full[:16385])}, api.ErrSize},
	} {
		kept := deep.State(c.st)
		got, e := Do(c.st, c.es...)
		if e != c.want || e != api.OK && !deep.SameState(got, api.State{}) || !deep.SameState(c.st, kept) {
			t.Errorf("case %d: %d, not %d", k, e, c.want)
		}
	}
}

// Two sessions: in the outer one, what is typed in the inner one is copied to the mirrors.
func TestP27_3Nested(t *testing.T) {
	outer := after(t, "${1:ab}-$1")
	outer.Sessions = append(outer.Sessions, api.Session{Cur: 5, Insts: []api.Inst{inst(0, 1, st(0, 1, 5, -1), st(1, 1, 6, -1))}})
	got, e := Do(outer, ed(1, 1, "xy"))
	if e != api.OK || got.Text != "axyb-axyb" || len(got.Sessions) != 2 || tell(got.Sessions[1]) != "0-3: 5@0-3 6@3-3" {
		t.Errorf("typed in the inner session: %q, %v", got.Text, got.Sessions)
	}
	got, e = Do(outer, ed(2, 2, "x"))
	if e != api.OK || got.Text != "abx-abx" || len(got.Sessions) != 1 {
		t.Errorf("typed in the outer session: %q, %d sessions", got.Text, len(got.Sessions))
	}
	got, e = Do(outer, ed(2, 3, "x"))
	if e != api.OK || got.Text != "abxab" || len(got.Sessions) != 0 {
		t.Errorf("typed outside: %q, %d sessions", got.Text, len(got.Sessions))
	}
}

// The owner in an outer session is a stop around the instance that owns the edit in the next inner one; another stop may
// well lie around what is typed.
func TestP27_3OwnersAroundOwners(t *testing.T) {
	id := func(x api.Stop, id string) api.Stop {
		x.Opts = []string{id}
		return x
	}
	state := api.State{Text: "abcdef", Sels: []api.Sel{{}}, Sessions: []api.Session{
		{Cur: 1, Insts: []api.Inst{inst(0, 6, id(st(0, 2, 1, -1), "a"), id(st(2, 5, 1, -1), "b"))}},
		{Cur: 3, Insts: []api.Inst{inst(2, 4, id(st(2, 4, 3, -1), "c"))}},
		{Cur: 5, Insts: []api.Inst{inst(2, 2, id(st(2, 2, 5, -1), "d"))}},
	}}
	got, e := Do(state, ed(2, 2, "x"))
	want, _ := modelDo(state, ed(2, 2, "x"))
	if e != api.OK || got.Text != "xcdexcdef" || !deep.SameState(got, want) || len(got.Sessions) != 3 {
		t.Errorf("%+v, %d, not %+v", got, e, want)
	}
}

func TestP27_3AgainstTheModel(t *testing.T) {
	rnd := rand.New(rand.NewSource(31))
	kept, ended := 0, 0
	for range 20000 {
		state := randomState(rnd)
		n := len(state.Text)
		var es []api.Edit
		for range rnd.Intn(4) {
			from := rnd.Intn(n + 1)
			es = append(es, ed(from, min(n, from+rnd.Intn(3)), "aby"[:rnd.Intn(4)]))
		}
		if k := len(state.Sessions); k > 0 && rnd.Intn(3) > 0 {
			es = nil
			for _, a := range stops.Spans(state.Sessions[k-1].Cur, state.Sessions[k-1].Insts...) {
				if rnd.Intn(2) == 0 {
					from := a.From + rnd.Intn(a.To-a.From+1)
					es = append(es, ed(from, from+rnd.Intn(a.To-from+1), "aby"[:rnd.Intn(4)]))
				}
			}
		}
		got, e := Do(state, es...)
		want, f := modelDo(state, es...)
		if e != f || !deep.SameState(got, want) {
			t.Fatalf("%+v, %v: %+v, %d, not %+v, %d", state, es, got, e, want, f)
		}
		if e != api.OK {
			continue
		}
		if !May(got) {
			t.Fatalf("%+v, %v: %+v is not valid", state, es, got)
		}
		if len(got.Sessions) < len(state.Sessions) {
			ended++
		} else if len(state.Sessions) > 0 && len(es) > 0 {
			kept++
		}
	}
	if kept < 1000 || ended < 1000 {
		t.Errorf("%d kept, %d ended", kept, ended)
	}
}

func TestP27_4Mirrors(t *testing.T) {
	rnd := rand.New(rand.NewSource(32))
	for _, snippet := range []string{"${1:ab}-$1", "${1:a${2:b}c}$2-$1", "${2:x${1:y}z}${1/y/<$0>/g}$2", "$1$1${1/(.)(.*)/$2$1/}$0", "${1:a}${2:$1b}${3:$2c}$3$1"} {
		for range 200 {
			state := after(t, snippet)
			for range 8 {
				spans := stops.Spans(state.Sessions[0].Cur, state.Sessions[0].Insts...)
				a := spans[rnd.Intn(len(spans))]
				from := a.From + rnd.Intn(a.Len()+1)
				next, e := Do(state, ed(from, from+rnd.Intn(a.To-from+1), "yab"[:rnd.Intn(4)]))
				if e != api.OK || len(next.Sessions) == 0 {
					break
				}
				state = next
				state.Sessions[0].Cur = stops.Numbers(state.Sessions[0].Insts...)[rnd.Intn(len(stops.Numbers(state.Sessions[0].Insts...)))]
				checkMirrors(t, snippet, state)
			}
		}
	}
}

func checkMirrors(t *testing.T, snippet string, state api.State) {
	t.Helper()
	for _, i := range state.Sessions[0].Insts {
		for _, x := range i.Stops {
			source := stops.Source(i, x.N, nil)
			if source < 0 {
				continue
			}
			want := state.Text[i.Stops[source].From:i.Stops[source].To]
			if x.Turned {
				want, _, _ = xform.Apply(x.Form, want, api.MaxFuel)
			}
			if got := state.Text[x.From:x.To]; got != want {
				t.Fatalf("%q, %q, number %d: %q, not %q", snippet, state.Text, x.N, got, want)
			}
		}
	}
}

func TestR1AnyArguments(t *testing.T) {
	wild := api.Session{Cur: 1, Insts: []api.Inst{inst(5, -3, st(9, 2, 1, 0), st(-4, 7, 1, 5), st(math.MaxInt, math.MinInt, 1, 1)), inst(0, 0), {}}}
	for k := -1; k < 4; k++ {
		for j := -1; j < 4; j++ {
			for _, e := range []api.Edit{ed(0, 3, "x"), ed(5, -9, ""), ed(math.MinInt, math.MaxInt, "y"), {}} {
				Shift(wild, k, j, e)
				Owner(wild, e.Span)
				Stays(wild, e)
			}
		}
	}
	if got := Shift(api.Session{}, 0, 0, ed(0, 0, "x")); len(got.Insts) != 0 {
		t.Error("a session without instances")
	}
}
