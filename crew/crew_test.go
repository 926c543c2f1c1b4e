package crew

import (
	"math"
	"slices"
	"strconv"
	"strings"
	"testing"

	"gimlet/api"
	"gimlet/deep"
	"gimlet/follow"
	"gimlet/sread"
)

func read(t *testing.T, s string) []api.Snip {
	t.Helper()
	l, e := sread.Read(s)
	if e != api.OK {
		t.Fatalf("Read(%q): %d", s, e)
	}
	return l
}

func state(text string, l ...api.Sel) api.State { return api.State{Text: text, Sels: l} }

func sel(anchor, head int) api.Sel { return api.Sel{Anchor: anchor, Head: head} }

func pair(name, value string) api.Pair { return api.Pair{Name: name, Value: value} }

// insert inserts a snippet that is accepted.
func insert(t *testing.T, st api.State, s string, env ...api.Pair) api.State {
	t.Helper()
	kept := deep.State(st)
	next, e := Insert(st, read(t, s), env...)
	if e != api.OK || !follow.May(next) || !deep.SameState(st, kept) {
		t.Fatalf("Insert of %q: %d", s, e)
	}
	return next
}

// tell writes a state: the text, the selections, and each session's current number, instances and stops.
func tell(st api.State) string {
	s := st.Text
	for _, l := range st.Sels {
		s += " " + strconv.Itoa(l.Anchor) + "-" + strconv.Itoa(l.Head)
	}
	for _, x := range st.Sessions {
		s += " @" + strconv.Itoa(x.Cur)
		for _, i := range x.Insts {
			s += " " + strconv.Itoa(i.From) + "-" + strconv.Itoa(i.To) + "/" + strconv.Itoa(len(i.Stops))
		}
	}
	return s
}

func TestP28_1Insert(t *testing.T) {
	for k, c := range []struct {
		st      api.State
		snippet string
		env     []api.Pair
		want    string
	}{
		{state("", sel(0, 0)), "${1:a}${2:b}", nil, "ab 0-1 @1 0-2/3"},
		{state("", sel(0, 0)), "", nil, " 0-0"},
		{state("xy", sel(1, 1)), "abc", nil, "xabcy 4-4"},
		{state("xy", sel(1, 1)), "a$0c", nil, "xacy 2-2"},
		{state("xy", sel(1, 1)), "a${0:b}c", nil, "xabcy 2-3"},
		{state("", sel(0, 0)), "for(${1:i};${1};){$0}", nil, "for(i;i;){} 4-5 6-7 @1 0-11/3"},
		{state("abcd", sel(0, 1), sel(4, 3)), "<$1>$TM_SELECTED_TEXT", nil, "<>abc<>d 1-1 6-6 @1 0-3/2 5-8/2"},
		{state("a\n\tb", sel(0, 0), sel(4, 4)), "x\n\ty$1", []api.Pair{pair("INDENT", "  ")}, "x\n  ya\n\tbx\n\t  y 5-5 15-15 @1 0-5/2 9-15/2"},
		{state(" a\n  b", sel(5, 1)), "x\n", nil, " x\n b 4-4"},
		{state("q w", sel(1, 1), sel(3, 3)), "${TM_CURRENT_WORD}${1:$TM_LINE_NUMBER}$A", []api.Pair{pair("A", "!")}, "qq1! ww1! 2-3 7-8 @1 1-4/2 6-9/2"},
		{state("", sel(0, 0)), "${3:c}${2:b}", nil, "cb 1-2 @2 0-2/3"},
		{state("", sel(0, 0)), "$X${1:a}", nil, "Xa 1-2 @1 0-2/3"},
		{state("", sel(0, 0)), "${1/a/b/}$0", nil, " 0-0"},
		{state("ab", sel(2, 0)), "${1:a${2:b}}$2", nil, "abb 0-2 @1 0-3/4"},
	} {
		if got := insert(t, c.st, c.snippet, c.env...); tell(got) != c.want {
			t.Errorf("case %d: %q, not %q", k, tell(got), c.want)
		}
	}
}

func TestP28_1InsertInSessions(t *testing.T) {
	st := insert(t, state("", sel(0, 0)), "${1:ab}-$1-${1/b/<$0>/}|$2")
	st.Sels = []api.Sel{sel(1, 2)}
	st = insert(t, st, "[${1:x}$0]")
	if got := tell(st); got != "a[x]-a[x]-a[x]| 2-3 @1 0-15/5 @1 1-4/2" {
		t.Errorf("in a stop of the current number: %q", got)
	}
	next := insert(t, st, "${1:b}")
	if got := tell(next); got != "a[b]-a[b]-a[<b>]| 2-3 @1 0-17/5 @1 1-4/2 @1 2-3/2" {
		t.Errorf("a third session: %q", got)
	}
	st.Sels = []api.Sel{sel(14, 14)}
	if got := tell(insert(t, st, "${1:y}")); got != "a[x]-a[x]-a[x]y| 14-15 @1 14-15/2" {
		t.Errorf("outside of all stops: %q", got)
	}
	// Each of the mirrors has an instance; as they have the same text, none is copied over.
	st = insert(t, state("", sel(0, 0)), "${1:ab}-$1")
	st.Sels = []api.Sel{sel(1, 1), sel(4, 4)}
	if got := tell(insert(t, st, "<$1>")); got != "a<>b-a<>b 2-2 7-7 @1 0-9/3 @1 1-3/2 6-8/2" {
		t.Errorf("at two mirrors: %q", got)
	}
	st.Sels = []api.Sel{sel(1, 1), sel(5, 5)}
	if got := tell(insert(t, st, "<$1>")); got != "a<>b-a<>b 2-2 @1 0-9/3 @1 1-3/2" {
		t.Errorf("at two places of two mirrors, of which one is copied over the other: %q", got)
	}
}

func TestP28_1InsertRefused(t *testing.T) {
	full := strings.Repeat("a", api.MaxDoc)
	deepest := state("", sel(0, 0))
	for range api.MaxSessions {
		deepest = insert(t, deepest, "${1:a}")
	}
	if len(deepest.Sessions) != api.MaxSessions {
		t.Fatalf("%d sessions", len(deepest.Sessions))
	}
	elsewhere := deep.State(deepest)
	elsewhere.Text += "z"
	elsewhere.Sels = []api.Sel{sel(2, 2)}
	bad := []api.Snip{{Kind: api.SnText}}
	grows := insert(t, state("", sel(0, 0)), "$1${1/^.*$/$0$0$0/}")
	slow := insert(t, state("", sel(0, 0)), "$1${1/(a*)*b/x/}")
	many := strings.Repeat("$1", api.MaxSels+1)
	for k, c := range []struct {
		st   api.State
		l    []api.Snip
		env  []api.Pair
		want api.Errno
	}{
		{state(""), bad, nil, api.ErrArg}, {state("", sel(0, 1)), bad, nil, api.ErrArg}, {state("", sel(0, 0)), bad, nil, api.ErrForm},
		{deepest, bad, nil, api.ErrForm}, {deepest, read(t, "${1:$1}"), nil, api.ErrLoop}, {state("", sel(0, 0)), read(t, strings.Repeat("$1", 257)), nil, api.ErrFull},
		{deepest, read(t, "a"), nil, api.ErrDeep}, {elsewhere, read(t, "a"), nil, api.OK},
		{state(full, sel(0, 0)), read(t, "a"), nil, api.ErrSize}, {state(full, sel(0, 1)), read(t, "a"), nil, api.OK},
		{state("ab", sel(0, 0), sel(2, 2)), read(t, "$B"), []api.Pair{pair("B", full[:40000])}, api.ErrSize},
		{state("", sel(0, 0)), read(t, "${1:aaaaaaaaaaaaaaaaaaaaaaaaaaaaaa}${1/(a*)*b/x/}"), nil, api.ErrFuel},
		{grows, read(t, "$B"), []api.Pair{pair("B", full[:19000])}, api.ErrSize},
		{slow, read(t, "aaaaaaaaaaaaaaaaaaaaaaaaaaaaaa"), nil, api.ErrFuel},
		{state("", sel(0, 0)), read(t, many), nil, api.ErrFull}, {state("", sel(0, 0)), read(t, many[2:]), nil, api.OK},
	} {
		kept := deep.State(c.st)
		got, e := Insert(c.st, c.l, c.env...)
		if e != c.want || e != api.OK && !deep.SameState(got, api.State{}) || !deep.SameState(c.st, kept) {
			t.Errorf("case %d: %d, not %d", k, e, c.want)
		}
	}
}

func TestP28_2NextPrevLeave(t *testing.T) {
	st := insert(t, state("", sel(0, 0)), "${1:a}${2:b}")
	if _, e := Prev(st); e != api.ErrNone {
		t.Errorf("Prev at the first number: %d", e)
	}
	second, e := Next(st)
	if e != api.OK || tell(second) != "ab 1-2 @2 0-2/3" {
		t.Errorf("Next: %q, %d", tell(second), e)
	}
	back, e := Prev(second)
	if e != api.OK || !deep.SameState(back, st) {
		t.Errorf("Prev: %q, %d", tell(back), e)
	}
	last, e := Next(second)
	if e != api.OK || tell(last) != "ab 2-2" {
		t.Errorf("Next: %q, %d", tell(last), e)
	}
	left, e := Leave(second)
	if e != api.OK || tell(left) != "ab 1-2" {
		t.Errorf("Leave: %q, %d", tell(left), e)
	}
	for k, f := range []func(api.State) (api.State, api.Errno){Next, Prev, Leave} {
		if got, e := f(last); e != api.ErrNone || !deep.SameState(got, api.State{}) {
			t.Errorf("function %d without a session: %d", k, e)
		}
		if got, e := f(state("")); e != api.ErrArg || !deep.SameState(got, api.State{}) {
			t.Errorf("function %d of a state that is not valid: %d", k, e)
		}
	}
}

func TestP28_2NextWithoutZero(t *testing.T) {
	st := insert(t, state("", sel(0, 0)), "${1:a}$2")
	x := &st.Sessions[0].Insts[0]
	x.Stops = x.Stops[:2] // a state that no snippet makes
	st.Sessions[0].Cur = 2
	got, e := Next(st)
	if e != api.OK || len(got.Sessions) != 0 || !slices.Equal(got.Sels, st.Sels) {
		t.Errorf("Next at the last number: %q, %d", tell(got), e)
	}
	st.Sessions[0].Cur = 9
	if got, e := Prev(st); e != api.OK || tell(got) != "a 1-1 @2 0-1/2" {
		t.Errorf("Prev: %q, %d", tell(got), e)
	}
}

func TestP28_2EnterNeedsRoom(t *testing.T) {
	st := insert(t, state("", sel(0, 0)), "$1"+strings.Repeat("$2", api.MaxSels+1)+"$3")
	if got, e := Next(st); e != api.ErrFull || !deep.SameState(got, api.State{}) {
		t.Errorf("too many stops to select: %d", e)
	}
	st.Sessions[0].Cur = 3
	if got, e := Prev(st); e != api.ErrFull || !deep.SameState(got, api.State{}) {
		t.Errorf("too many stops to select: %d", e)
	}
}

func TestP28_2Choose(t *testing.T) {
	st := insert(t, state("ab", sel(0, 0), sel(2, 2)), "${1|x,yy,|}-$1${1/y/<$0>/}")
	if tell(st) != "x-xxabx-xx 0-1 2-3 6-7 8-9 @1 0-4/4 6-10/4" {
		t.Fatalf("Insert: %q", tell(st))
	}
	for k, want := range map[int]string{
		0: "x-xxabx-xx 0-1 2-3 6-7 8-9 @1 0-4/4 6-10/4", 1: "yy-yy<y>yabyy-yy<y>y 0-2 3-5 11-13 14-16 @1 0-9/4 11-20/4", 2: "-ab- 0-0 1-1 3-3 4-4 @1 0-1/4 3-4/4",
	} {
		if got, e := Choose(st, k); e != api.OK || tell(got) != want {
			t.Errorf("Choose(%d): %q, %d, not %q", k, tell(got), e, want)
		}
	}
	for _, k := range []int{-1, 3, math.MinInt, math.MaxInt} {
		if got, e := Choose(st, k); e != api.ErrRange || !deep.SameState(got, api.State{}) {
			t.Errorf("Choose(%d): %d", k, e)
		}
	}
	uneven := deep.State(st)
	uneven.Sessions[0].Insts[0].Stops[0].Opts = []string{"x"}
	if got, e := Choose(uneven, 1); e != api.OK || got.Text != "x-xxabyy-yy<y>y" {
		t.Errorf("an instance without this option: %q, %d", got.Text, e)
	}
	plain := insert(t, state("", sel(0, 0)), "${1:a}${2|b,c|}")
	for _, c := range []struct {
		st   api.State
		k    int
		want api.Errno
	}{{state(""), -1, api.ErrArg}, {state("", sel(0, 0)), -1, api.ErrNone}, {plain, -1, api.ErrNone}} {
		if got, e := Choose(c.st, c.k); e != c.want || !deep.SameState(got, api.State{}) {
			t.Errorf("Choose: %d, not %d", e, c.want)
		}
	}
	if got, e := Choose(insert(t, state("", sel(0, 0)), "${1|x|}y"), 0); e != api.OK || tell(got) != "xy 0-1 @1 0-2/2" {
		t.Errorf("one option: %q, %d", tell(got), e)
	}
	full := strings.Repeat("a", api.MaxDoc-3)
	if got, e := Choose(insert(t, state(full, sel(0, 0)), "${1|x,y,zzzz|}"), 2); e != api.ErrSize || got.Text != "" {
		t.Errorf("too long an option: %d", e)
	}
}

// A stop that stands in one of its own number, as in no snippet, is copied over; what stands in it is gone then.
func TestP28_TheSessionIsGone(t *testing.T) {
	stop := func(from, to, n, up int, opts ...string) api.Stop {
		return api.Stop{Span: api.Span{From: from, To: to}, N: n, Up: up, Opts: opts}
	}
	outer := api.Session{Cur: 1, Insts: []api.Inst{{Span: api.Span{To: 3}, Stops: []api.Stop{stop(0, 3, 2, -1), stop(0, 2, 2, 0), stop(0, 1, 1, 1)}}}}
	inner := api.Session{Cur: 5, Insts: []api.Inst{{Span: api.Span{To: 1}, Stops: []api.Stop{stop(0, 1, 5, -1, "p", "q")}}}}
	st := api.State{Text: "abc", Sels: []api.Sel{sel(0, 0)}, Sessions: []api.Session{outer, inner}}
	if got, e := Choose(st, 1); e != api.OK || tell(got) != "qbcc 3-3" {
		t.Errorf("Choose: %q, %d", tell(got), e)
	}
	st.Sessions = st.Sessions[:1]
	if got, e := Insert(st, read(t, "<$1>")); e != api.OK || tell(got) != "<>abcc 5-5" {
		t.Errorf("Insert: %q, %d", tell(got), e)
	}
}
