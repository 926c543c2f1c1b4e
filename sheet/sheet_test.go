package sheet

import (
	"math/rand"
	"slices"
	"strings"
	"testing"

	"gimlet/api"
	"gimlet/change"
	"gimlet/dice"
	"gimlet/marks"
	"gimlet/motion"
	"gimlet/sels"
)

func of(t *testing.T, text string, l ...api.Sel) *Sheet {
	t.Helper()
	s, e := New(dice.New(), text)
	if e != api.OK {
		t.Fatal(e)
	}
	if len(l) > 0 && s.Select(l...) != api.OK {
		t.Fatal("Select")
	}
	return s
}

func sel(anchor, head int) api.Sel { return api.Sel{Anchor: anchor, Head: head} }

func ed(from, to int, text string) api.Edit {
	return api.Edit{Span: api.Span{From: from, To: to}, Text: text}
}

func TestP10_1New(t *testing.T) {
	s := of(t, "ab\nc")
	if s.Text() != "ab\nc" || s.Len() != 4 || s.Many() != 2 || len(s.Marks.Ids()) != 0 || !slices.Equal(s.Sels(), []api.Sel{sel(0, 0)}) {
		t.Error("a new sheet")
	}
	if at, e := s.Start(1); at != 3 || e != api.OK {
		t.Error("the methods of the lines are methods of the sheet")
	}
	if s, e := New(nil, strings.Repeat("a", api.MaxDoc+1)); s != nil || e != api.ErrNil {
		t.Error("no dice")
	}
	if s, e := New(dice.New(), strings.Repeat("a", api.MaxDoc+1)); s != nil || e != api.ErrSize {
		t.Error("too long a text")
	}
}

func TestP10_1Select(t *testing.T) {
	s := of(t, "abcdef")
	if s.Select(sel(5, 3), sel(1, 1), sel(3, 2)) != api.OK || !slices.Equal(s.Sels(), []api.Sel{sel(1, 1), sel(5, 2)}) {
		t.Errorf("Select: %v", s.Sels())
	}
	for _, c := range []struct {
		l    []api.Sel
		want api.Errno
	}{{nil, api.ErrArg}, {[]api.Sel{sel(0, 7)}, api.ErrRange}, {make([]api.Sel, 65), api.ErrFull}} {
		if e := s.Select(c.l...); e != c.want || len(s.Sels()) != 2 {
			t.Errorf("Select of %v: %d", c.l, e)
		}
	}
	if got := s.Sels(); true {
		got[0] = sel(6, 6)
	}
	if s.Sels()[0] != sel(1, 1) {
		t.Error("R4: the selections that are returned are the sheet's own")
	}
}

func TestP10_1Do(t *testing.T) {
	s := of(t, "abcdef", sel(1, 3), sel(6, 6))
	s.Marks.Add(api.Range{Span: api.Span{From: 2, To: 4}})
	for _, c := range []struct {
		es   []api.Edit
		want api.Errno
	}{
		{[]api.Edit{ed(0, 2, ""), ed(1, 2, "")}, api.ErrOverlap}, {[]api.Edit{ed(0, 7, "")}, api.ErrRange},
		{[]api.Edit{ed(0, 0, strings.Repeat("x", api.MaxDoc))}, api.ErrSize},
	} {
		if back, e := s.Do(c.es...); back != nil || e != c.want || s.Text() != "abcdef" {
			t.Errorf("Do of %v: %d", c.es, e)
		}
	}
	back, e := s.Do(ed(4, 5, "XYZ"), ed(0, 1, ""))
	if e != api.OK || s.Text() != "bcdXYZf" || !slices.Equal(s.Sels(), []api.Sel{sel(0, 2), sel(7, 7)}) {
		t.Errorf("Do: %q, %v", s.Text(), s.Sels())
	}
	if r, _ := s.Marks.Get(1); r.Span != (api.Span{From: 1, To: 3}) {
		t.Errorf("the mark: %v", r)
	}
	if !slices.Equal(back, []api.Edit{ed(0, 0, "a"), ed(3, 6, "e")}) {
		t.Errorf("back: %v", back)
	}
	if back, e := s.Do(); len(back) != 0 || e != api.OK || s.Text() != "bcdXYZf" {
		t.Error("Do of nothing")
	}
}

func TestP10_1DoAtTheLimit(t *testing.T) {
	full := strings.Repeat("a", api.MaxDoc)
	s := of(t, full)
	if _, e := s.Do(ed(api.MaxDoc, api.MaxDoc, "xyz"), ed(0, 3, "")); e != api.OK || s.Text() != full[3:]+"xyz" {
		t.Error("a text that would be too long between two edits")
	}
	if _, e := s.Do(ed(0, 0, "b"), ed(5, 5, "")); e != api.ErrSize {
		t.Error("a text that is too long")
	}
}

func TestP10_1Go(t *testing.T) {
	s := of(t, "ab cd", sel(1, 4))
	if s.Go(0, false) != api.ErrArg || s.Go(11, true) != api.ErrArg || s.Sels()[0] != sel(1, 4) {
		t.Error("no way to go")
	}
	if s.Go(api.GoLeft, true) != api.OK || s.Sels()[0] != sel(1, 3) || s.Go(api.GoRight, false) != api.OK || s.Sels()[0] != sel(3, 3) {
		t.Error("Go")
	}
}

func TestP10_2Typed(t *testing.T) {
	s := of(t, "ab")
	es := s.Typed("x")
	if s.Text() != "ab" || !slices.Equal(es, []api.Edit{ed(0, 0, "x")}) {
		t.Error("Typed changes something")
	}
	if _, e := s.Do(es...); e != api.OK || s.Text() != "xab" || s.Sels()[0] != sel(1, 1) {
		t.Error("the example")
	}
	s = of(t, "abcdef", sel(3, 1), sel(5, 5))
	if es := s.Typed("yz"); !slices.Equal(es, []api.Edit{ed(1, 3, "yz"), ed(5, 5, "yz")}) {
		t.Errorf("Typed: %v", es)
	}
}

func TestP10_2Erased(t *testing.T) {
	for _, c := range []struct {
		text  string
		l     []api.Sel
		forth bool
		want  []api.Edit
	}{
		{"ab", []api.Sel{sel(0, 0)}, false, nil},
		{"ab", []api.Sel{sel(2, 2)}, true, nil},
		{"ab", []api.Sel{sel(0, 0)}, true, []api.Edit{ed(0, 1, "")}},
		{"éb", []api.Sel{sel(2, 2), sel(3, 3)}, false, []api.Edit{ed(0, 3, "")}},
		{"abcdef", []api.Sel{sel(3, 1), sel(4, 4), sel(6, 6)}, false, []api.Edit{ed(1, 4, ""), ed(5, 6, "")}},
		{"abcdef", []api.Sel{sel(0, 0), sel(2, 3), sel(5, 5)}, true, []api.Edit{ed(0, 1, ""), ed(2, 3, ""), ed(5, 6, "")}},
		{"abcdef", []api.Sel{sel(0, 0), sel(1, 3)}, true, []api.Edit{ed(0, 3, "")}},
	} {
		s := of(t, c.text, c.l...)
		if es := s.Erased(c.forth); !slices.Equal(es, c.want) || s.Text() != c.text {
			t.Errorf("%q, Erased(%v) of %v: %v", c.text, c.forth, c.l, es)
		}
	}
}

func TestP10_3Random(t *testing.T) {
	rnd := rand.New(rand.NewSource(13))
	for range 500 {
		text := strings.Repeat("ab\né日x ", 3)[:rnd.Intn(28)]
		s := of(t, text)
		at := func() int { return rnd.Intn(len(text) + 1) }
		s.Select(sel(at(), at()), sel(at(), at()), sel(at(), at()))
		tab := marks.New()
		for range 4 {
			from, to := at(), at()
			r := api.Range{Span: api.Span{From: min(from, to), To: max(from, to)}, FromRight: rnd.Intn(2) == 0, ToRight: rnd.Intn(2) == 0}
			s.Marks.Add(r)
			tab.Add(r)
		}
		var es []api.Edit
		for range 3 {
			from := at()
			es = append(es, ed(from, min(len(text), from+rnd.Intn(4)), "xyz"[:rnd.Intn(4)]))
		}
		before := s.Sels()
		back, e := s.Do(es...)
		want, f := change.Apply(text, es...)
		if e != f || e == api.OK && s.Text() != want || e != api.OK && s.Text() != text {
			t.Fatalf("%q, %v: %q, %d", text, es, s.Text(), e)
		}
		if e != api.OK {
			continue
		}
		tab.Move(es...)
		for _, id := range tab.Ids() {
			a, _ := s.Marks.Get(id)
			if b, _ := tab.Get(id); a != b {
				t.Fatalf("mark %d: %v, not %v", id, a, b)
			}
		}
		if !slices.Equal(s.Sels(), sels.Move(before, es...)) {
			t.Fatalf("selections: %v", s.Sels())
		}
		if _, e := s.Do(back...); e != api.OK || s.Text() != text {
			t.Fatalf("back: %q, not %q", s.Text(), text)
		}
	}
}

func TestR3Nil(t *testing.T) {
	var s *Sheet
	_, e := s.Do()
	if s.Sels() != nil || s.Typed("a") != nil || s.Erased(true) != nil || e != api.ErrNil || s.Select() != api.ErrNil || s.Go(0, true) != api.ErrNil {
		t.Error("nil")
	}
}

func TestR1ChangedBehindItsBack(t *testing.T) {
	s := of(t, "abcdef", sel(5, 5), sel(6, 6))
	s.Delete(1, 6)
	s.Marks = nil
	s.Erased(true)
	s.Typed("x")
	s.Go(api.GoLeft, false)
	s.Do(s.Typed("x")...)
	s.Do(ed(0, 1, "q"))
	var zero Sheet
	zero.Do(ed(0, 0, "a"))
	zero.Go(api.GoLeft, true)
	zero.Erased(false)
	if e := zero.Select(sel(0, 0)); e != api.OK {
		t.Error(e)
	}
	if _, e := motion.Step(zero.Lines, 0, 1); e != api.ErrNil {
		t.Error(e)
	}
}
