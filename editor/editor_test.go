package editor

import (
	"math"
	"slices"
	"strconv"
	"strings"
	"testing"

	"gimlet/api"
	"gimlet/deep"
	"gimlet/dice"
)

func pair(name, value string) api.Pair { return api.Pair{Name: name, Value: value} }

func sel(anchor, head int) api.Sel { return api.Sel{Anchor: anchor, Head: head} }

func ed(from, to int, text string) api.Edit {
	return api.Edit{Span: api.Span{From: from, To: to}, Text: text}
}

func insert(s string) api.Op { return api.Op{Kind: api.OpInsert, Text: s} }

func typed(s string) api.Op { return api.Op{Kind: api.OpType, Text: s} }

func just(kind int) api.Op { return api.Op{Kind: kind} }

// play returns an editor that has performed operations, all of which are accepted.
func play(t *testing.T, os ...api.Op) *Editor {
	t.Helper()
	e, code := New(dice.New(3, 1, 2))
	if code != api.OK {
		t.Fatal(code)
	}
	for k, o := range os {
		if code := e.Do(o); code != api.OK {
			t.Fatalf("operation %d: %d", k, code)
		}
	}
	return e
}

func tell(e *Editor) string {
	st := e.State()
	s := st.Text
	for _, l := range st.Sels {
		s += " " + strconv.Itoa(l.Anchor) + "-" + strconv.Itoa(l.Head)
	}
	for _, x := range st.Sessions {
		s += " @" + strconv.Itoa(x.Cur) + "/" + strconv.Itoa(len(x.Insts))
	}
	return s
}

func TestP30_1New(t *testing.T) {
	e, code := New(dice.New(), pair("A", "1"), pair("B", "2"), pair("A", "3"))
	if code != api.OK || tell(e) != " 0-0" || !slices.Equal(e.Vars(), []api.Pair{pair("A", "3"), pair("B", "2")}) {
		t.Errorf("New: %q, %v, %d", tell(e), e.Vars(), code)
	}
	full := make([]api.Pair, api.MaxVars+1)
	for i := range full {
		full[i] = pair("V"+strconv.Itoa(i), "")
	}
	for _, c := range []struct {
		d    *dice.Dice
		env  []api.Pair
		want api.Errno
	}{
		{nil, []api.Pair{pair("9", "")}, api.ErrNil}, {dice.New(), []api.Pair{pair("A", ""), pair("9", "")}, api.ErrArg},
		{dice.New(), []api.Pair{pair("A", strings.Repeat("x", api.MaxDoc+1))}, api.ErrSize}, {dice.New(), full, api.ErrFull}, {dice.New(), full[1:], api.OK},
	} {
		if e, code := New(c.d, c.env...); code != c.want || (e == nil) != (code != api.OK) {
			t.Errorf("New: %d, not %d", code, c.want)
		}
	}
}

func TestP30_1StateVars(t *testing.T) {
	e := play(t, insert("${1:a}-$1"), api.Op{Kind: api.OpSet, Name: "C", Text: "4"})
	if tell(e) != "a-a 0-1 2-3 @1/1" || !slices.Equal(e.Vars(), []api.Pair{pair("C", "4")}) {
		t.Errorf("%q, %v", tell(e), e.Vars())
	}
	st, env := e.State(), e.Vars()
	st.Sels[0].Head, st.Sessions[0].Cur, st.Sessions[0].Insts[0].Stops[0].N, env[0].Value = 9, 9, 9, "9"
	if tell(e) != "a-a 0-1 2-3 @1/1" || e.State().Sessions[0].Insts[0].Stops[0].N != 1 || e.Vars()[0].Value != "4" {
		t.Error("R4: what is returned is the editor's own")
	}
	if n, _ := e.Count(3); n.Runes != 3 || e.Len() != 3 || e.Many() != 1 || !slices.Equal(e.Sels(), e.State().Sels) {
		t.Error("the methods of the sheet are methods of the editor")
	}
}

func TestTheWhole(t *testing.T) {
	e := play(t, insert("for(${1:i};${1};){$0}"))
	for k, c := range []struct {
		o    api.Op
		want string
	}{
		{api.Op{Kind: api.OpSelect, Sels: []api.Sel{sel(4, 5), sel(6, 7)}}, "for(i;i;){} 4-5 6-7 @1/1"},
		{typed("xy"), "for(xy;xy;){} 6-6 9-9 @1/1"},
		{just(api.OpNext), "for(xy;xy;){} 12-12"},
		{just(api.OpUndo), "for(xy;xy;){} 6-6 9-9 @1/1"},
		{just(api.OpUndo), "for(i;i;){} 4-5 6-7 @1/1"},
		{just(api.OpRedo), "for(xy;xy;){} 6-6 9-9 @1/1"},
		{just(api.OpRedo), "for(xy;xy;){} 12-12"},
	} {
		if code := e.Do(c.o); code != api.OK || tell(e) != c.want {
			t.Errorf("operation %d: %q, %d, not %q", k, tell(e), code, c.want)
		}
	}
	e = play(t, typed("--"), api.Op{Kind: api.OpSelect, Sels: []api.Sel{sel(0, 0), sel(2, 2)}}, insert("${1:a}-${1/a/b/}"))
	if tell(e) != "a-b--a-b 0-1 5-6 @1/2" {
		t.Errorf("two carets: %q", tell(e))
	}
	if e.Do(api.Op{Kind: api.OpEdit, Edits: []api.Edit{ed(0, 2, ""), ed(1, 3, "")}}) != api.ErrOverlap || e.Do(insert("${1:$2}${2:$1}")) != api.ErrLoop || tell(e) != "a-b--a-b 0-1 5-6 @1/2" {
		t.Errorf("refused: %q", tell(e))
	}
	if e := play(t, insert("${1:a")); tell(e) != "${1:a 5-5" {
		t.Errorf("what is not complete: %q", tell(e))
	}
}

func TestP30_2Operations(t *testing.T) {
	for k, c := range []struct {
		os   []api.Op
		want string
	}{
		{[]api.Op{typed("ab\ncd"), {Kind: api.OpMove, N: api.GoUp}, typed("x")}, "abx\ncd 3-3"},
		{[]api.Op{typed("abc"), {Kind: api.OpErase}}, "ab 2-2"},
		{[]api.Op{typed("abc"), {Kind: api.OpMove, N: api.GoTop}, {Kind: api.OpErase, N: 1}}, "bc 0-0"},
		{[]api.Op{typed("abc"), {Kind: api.OpErase, N: 1}}, "abc 3-3"},
		{[]api.Op{typed("abc"), {Kind: api.OpEdit, Edits: []api.Edit{ed(2, 3, "xyz"), ed(0, 1, "")}}}, "bxyz 4-4"},
		{[]api.Op{typed("abc"), {Kind: api.OpSelect, Sels: []api.Sel{sel(3, 2), sel(1, 0)}}}, "abc 1-0 3-2"},
		{[]api.Op{typed("abc"), {Kind: api.OpMove, N: api.GoHome, Extend: true}}, "abc 3-0"},
		{[]api.Op{insert("${1:a}${2:b}"), just(api.OpNext), just(api.OpPrev)}, "ab 0-1 @1/1"},
		{[]api.Op{insert("${1:a}${2:b}"), just(api.OpLeave)}, "ab 0-1"},
		{[]api.Op{insert("${1|a,bcd|}-$1"), {Kind: api.OpChoose, N: 1}}, "bcd-bcd 0-3 4-7 @1/1"},
		{[]api.Op{insert("${1:a}-$1"), typed("xy")}, "xy-xy 2-2 5-5 @1/1"},
		{[]api.Op{{Kind: api.OpSet, Name: "V", Text: "val"}, insert("$V$W")}, "valW 3-4 @1/1"},
		{[]api.Op{insert("${1:a}"), insert("${1:b}"), insert("${1:c}")}, "c 0-1 @1/1 @1/1 @1/1"},
		{[]api.Op{{Kind: api.OpEdit}}, " 0-0"},
		// Fields that are not those of the kind are ignored.
		{[]api.Op{{Kind: api.OpType, Text: "a", Name: "9", N: 7, Extend: true, Edits: []api.Edit{ed(5, 1, "")}, Sels: []api.Sel{sel(9, 9)}}}, "a 1-1"},
	} {
		if e := play(t, c.os...); tell(e) != c.want {
			t.Errorf("case %d: %q, not %q", k, tell(e), c.want)
		}
	}
}

func TestP30_2Refused(t *testing.T) {
	e := play(t, insert("${1:ab}-$1${1/(a*)*b/x/}"))
	full := strings.Repeat("a", api.MaxDoc)
	for _, c := range []struct {
		o    api.Op
		want api.Errno
	}{
		{just(0), api.ErrArg}, {just(14), api.ErrArg}, {just(-1), api.ErrArg}, {just(math.MaxInt), api.ErrArg},
		{api.Op{Kind: api.OpSet, Name: "9a"}, api.ErrArg}, {api.Op{Kind: api.OpSet, Name: "A", Text: full + "a"}, api.ErrSize},
		{typed(full), api.ErrSize}, {typed("aaaaaaaaaaaaaaaaaaaaaaaaaaaaaa"), api.ErrFuel}, {api.Op{Kind: api.OpErase, N: 2}, api.ErrArg}, {api.Op{Kind: api.OpErase, N: -1}, api.ErrArg},
		{api.Op{Kind: api.OpEdit, Edits: []api.Edit{ed(0, 99, "")}}, api.ErrRange}, {api.Op{Kind: api.OpEdit, Edits: []api.Edit{ed(1, 1, ""), ed(1, 1, "")}}, api.ErrOverlap},
		{just(api.OpSelect), api.ErrArg}, {api.Op{Kind: api.OpSelect, Sels: []api.Sel{sel(0, 99)}}, api.ErrRange}, {api.Op{Kind: api.OpSelect, Sels: make([]api.Sel, 65)}, api.ErrFull},
		{just(api.OpMove), api.ErrArg}, {api.Op{Kind: api.OpMove, N: 11}, api.ErrArg}, {insert(strings.Repeat("a", api.MaxSnip+1)), api.ErrSize},
		{insert(strings.Repeat("${1:", 33) + strings.Repeat("}", 33)), api.ErrDeep}, {insert("${1:$1}"), api.ErrLoop}, {insert(strings.Repeat("$1", 257)), api.ErrFull},
		{just(api.OpPrev), api.ErrNone}, {just(api.OpChoose), api.ErrNone}, {just(api.OpRedo), api.ErrEnd},
	} {
		before, env := e.State(), e.Vars()
		if code := e.Do(c.o); code != c.want || !deep.SameState(e.State(), before) || !slices.Equal(e.Vars(), env) {
			t.Errorf("%+.50v: %d, not %d", c.o, code, c.want)
		}
	}
	if e.Do(just(api.OpUndo)) != api.OK || e.Do(just(api.OpUndo)) != api.ErrEnd {
		t.Error("refused operations are in the history")
	}
	e = play(t)
	for _, kind := range []int{api.OpUndo, api.OpRedo} {
		if e.Do(just(kind)) != api.ErrEnd {
			t.Error("the history of a new editor is not empty")
		}
	}
	for _, kind := range []int{api.OpNext, api.OpPrev, api.OpLeave, api.OpChoose} {
		if e.Do(just(kind)) != api.ErrNone {
			t.Errorf("kind %d without a session", kind)
		}
	}
}

func TestP30_2WhatIsKept(t *testing.T) {
	e := play(t, typed("abc"), api.Op{Kind: api.OpSelect, Sels: []api.Sel{sel(1, 2)}}, api.Op{Kind: api.OpMove, N: api.GoHome}, api.Op{Kind: api.OpSet, Name: "A", Text: "1"})
	e.Do(just(api.OpUndo))
	if tell(e) != " 0-0" || len(e.Vars()) != 1 {
		t.Errorf("one step: %q", tell(e))
	}
	e.Do(just(api.OpRedo))
	if tell(e) != "abc 0-0" {
		t.Errorf("the state after it is the one at OpUndo: %q", tell(e))
	}
	e = play(t, api.Op{Kind: api.OpErase}, api.Op{Kind: api.OpEdit}, typed(""))
	for range 3 {
		if e.Do(just(api.OpUndo)) != api.OK {
			t.Error("what changes nothing is kept too")
		}
	}
	if e.Do(just(api.OpUndo)) != api.ErrEnd {
		t.Error("there were three operations")
	}
	e = play(t, typed("a"), just(api.OpUndo), typed("b"))
	if e.Do(just(api.OpRedo)) != api.ErrEnd || tell(e) != "b 1-1" {
		t.Error("a new operation removes the later states")
	}
	e = play(t)
	for range api.MaxUndo + 5 {
		e.Do(typed("a"))
	}
	for range api.MaxUndo {
		if e.Do(just(api.OpUndo)) != api.OK {
			t.Fatal("OpUndo")
		}
	}
	if e.Do(just(api.OpUndo)) != api.ErrEnd || tell(e) != "aaaaa 5-5" {
		t.Errorf("the oldest states are gone: %q", tell(e))
	}
}

func TestP30_3AnyDice(t *testing.T) {
	os := []api.Op{insert("${1:a}\n\t$1"), typed("xyz"), insert("<$1>"), typed(strings.Repeat("long ", 50)), just(api.OpLeave), {Kind: api.OpErase}, just(api.OpUndo)}
	want := play(t, os...).State()
	for _, nums := range [][]uint32{nil, {0, 0, 0, 0}, {9, 8, 7, 6, 5, 4, 3}, make([]uint32, 1000)} {
		e, _ := New(dice.New(nums...))
		for _, o := range os {
			e.Do(o)
		}
		if !deep.SameState(e.State(), want) {
			t.Errorf("dice %v: %q", nums, tell(e))
		}
	}
}

func TestP30_4UndoRedo(t *testing.T) {
	e := play(t)
	for k, o := range []api.Op{
		insert("${1|a,bb|}-$1${2:c}"), typed("xy"), {Kind: api.OpChoose, N: 1}, just(api.OpNext), insert("<${1:q}>"), just(api.OpLeave), just(api.OpPrev),
		{Kind: api.OpEdit, Edits: []api.Edit{ed(0, 1, "zz")}}, {Kind: api.OpErase}, just(api.OpNext), just(api.OpNext), insert("end"),
	} {
		before := e.State()
		if code := e.Do(o); code != api.OK {
			t.Fatalf("operation %d: %d, %q", k, code, tell(e))
		}
		after := e.State()
		if e.Do(just(api.OpUndo)) != api.OK || !deep.SameState(e.State(), before) {
			t.Errorf("operation %d, undone: %q", k, tell(e))
		}
		if e.Do(just(api.OpRedo)) != api.OK || !deep.SameState(e.State(), after) {
			t.Errorf("operation %d, redone: %q", k, tell(e))
		}
	}
}

func TestMarksFollow(t *testing.T) {
	e := play(t, typed("hello world"))
	e.Marks.Add(api.Range{Span: api.Span{From: 6, To: 11}})
	e.Do(api.Op{Kind: api.OpEdit, Edits: []api.Edit{ed(0, 5, "hi")}})
	if r, ok := e.Marks.Get(1); !ok || r.Span != (api.Span{From: 3, To: 8}) {
		t.Errorf("the mark: %v", r)
	}
}

func TestR3Nil(t *testing.T) {
	var e *Editor
	if e.Do(typed("a")) != api.ErrNil || !deep.SameState(e.State(), api.State{}) || e.Vars() != nil {
		t.Error("nil")
	}
	var zero Editor
	for kind := range 15 {
		zero.Do(api.Op{Kind: kind, Text: "a", Name: "A", N: 1})
	}
}
