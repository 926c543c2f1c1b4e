package sels

import (
	"math"
	"math/rand"
	"slices"
	"testing"

	"gimlet/api"
	"gimlet/change"
	"gimlet/span"
)

func sel(anchor, head int) api.Sel { return api.Sel{Anchor: anchor, Head: head} }

func TestP8_1Span(t *testing.T) {
	if Span(sel(5, 3)) != (api.Span{From: 3, To: 5}) || Span(sel(3, 5)) != (api.Span{From: 3, To: 5}) || Span(sel(2, 2)) != (api.Span{From: 2, To: 2}) {
		t.Error("Span")
	}
}

func TestP8_1Norm(t *testing.T) {
	for _, c := range []struct {
		l, want []api.Sel
	}{
		{[]api.Sel{sel(5, 3), sel(5, 7)}, []api.Sel{sel(7, 3)}},
		{[]api.Sel{sel(5, 7), sel(5, 3)}, []api.Sel{sel(7, 3)}},
		{[]api.Sel{sel(3, 5), sel(7, 5)}, []api.Sel{sel(3, 7)}},
		{[]api.Sel{sel(2, 2), sel(4, 2)}, []api.Sel{sel(2, 4)}},
		{[]api.Sel{sel(9, 9), sel(0, 0), sel(4, 4)}, []api.Sel{sel(0, 0), sel(4, 4), sel(9, 9)}},
		{[]api.Sel{sel(4, 4), sel(4, 4)}, []api.Sel{sel(4, 4)}},
		{[]api.Sel{sel(8, 0), sel(2, 3), sel(8, 9)}, []api.Sel{sel(9, 0)}},
		{[]api.Sel{sel(1, 3), sel(3, 1)}, []api.Sel{sel(1, 3)}},
		{[]api.Sel{sel(3, 1), sel(1, 3)}, []api.Sel{sel(3, 1)}},
	} {
		kept := slices.Clone(c.l)
		got, e := Norm(9, c.l...)
		if e != api.OK || !slices.Equal(got, c.want) {
			t.Errorf("Norm of %v: %v", c.l, got)
		}
		if !slices.Equal(c.l, kept) {
			t.Error("R4: the argument is changed")
		}
	}
}

func TestP8_1Refused(t *testing.T) {
	many := make([]api.Sel, api.MaxSels+1)
	for _, c := range []struct {
		n    int
		l    []api.Sel
		want api.Errno
	}{
		{9, nil, api.ErrArg}, {-1, nil, api.ErrArg}, {-1, many, api.ErrFull}, {9, many[1:], api.OK},
		{9, []api.Sel{sel(0, 0), sel(10, 9)}, api.ErrRange}, {9, []api.Sel{sel(0, 10)}, api.ErrRange},
		{9, []api.Sel{sel(-1, 3)}, api.ErrRange}, {9, []api.Sel{sel(3, -1)}, api.ErrRange}, {-1, []api.Sel{sel(0, 0)}, api.ErrRange},
		{9, []api.Sel{sel(math.MinInt, math.MaxInt)}, api.ErrRange}, {0, []api.Sel{sel(0, 0)}, api.OK},
	} {
		if got, e := Norm(c.n, c.l...); e != c.want || e != api.OK && got != nil {
			t.Errorf("Norm(%d, %v): %d, not %d", c.n, c.l, e, c.want)
		}
	}
}

func TestP8_1Move(t *testing.T) {
	put := api.Edit{Span: api.Span{From: 2, To: 2}, Text: "xy"}
	cut := api.Edit{Span: api.Span{From: 1, To: 6}, Text: "z"}
	for _, c := range []struct {
		e       api.Edit
		l, want []api.Sel
	}{
		{put, []api.Sel{sel(2, 2)}, []api.Sel{sel(4, 4)}},
		{put, []api.Sel{sel(0, 2), sel(5, 3)}, []api.Sel{sel(0, 4), sel(7, 5)}},
		{cut, []api.Sel{sel(3, 0), sel(5, 9)}, []api.Sel{sel(5, 0)}},
		{cut, []api.Sel{sel(3, 2), sel(5, 5), sel(8, 8)}, []api.Sel{sel(2, 2), sel(4, 4)}},
		{put, []api.Sel{sel(9, 9), sel(1, 1)}, []api.Sel{sel(1, 1), sel(11, 11)}},
		{put, nil, nil},
	} {
		kept := slices.Clone(c.l)
		if got := Move(c.l, c.e); !slices.Equal(got, c.want) || !slices.Equal(c.l, kept) {
			t.Errorf("Move of %v: %v, not %v", c.l, got, c.want)
		}
	}
	if got := Move([]api.Sel{sel(-5, 99)}); !slices.Equal(got, []api.Sel{sel(-5, 99)}) {
		t.Error("Move checks nothing")
	}
	if got := Move(make([]api.Sel, 100)); len(got) != 1 {
		t.Error("Move of many")
	}
}

func TestP8_2Normal(t *testing.T) {
	rnd := rand.New(rand.NewSource(10))
	for range 3000 {
		l := make([]api.Sel, 1+rnd.Intn(6))
		for i := range l {
			at := rnd.Intn(25)
			l[i] = sel(at, max(0, min(24, at+rnd.Intn(7)-3)))
		}
		got, e := Norm(24, l...)
		again, _ := Norm(24, got...)
		if e != api.OK || !slices.Equal(got, again) {
			t.Fatalf("Norm of %v: %v, and again: %v", l, got, again)
		}
		for i := 1; i < len(got); i++ {
			if Span(got[i-1]).To >= Span(got[i]).From {
				t.Fatalf("%v touch", got)
			}
		}
		for at := range 25 {
			has := func(s api.Sel) bool { return span.Has(Span(s), at) }
			if slices.ContainsFunc(l, has) != slices.ContainsFunc(got, has) {
				t.Fatalf("%v and %v do not cover the same", l, got)
			}
		}
		from := rnd.Intn(20)
		ed := api.Edit{Span: api.Span{From: from, To: from + rnd.Intn(5)}, Text: "abc"[:rnd.Intn(4)]}
		var want []api.Sel
		for _, s := range l {
			want = append(want, sel(change.Move(s.Anchor, true, ed), change.Move(s.Head, true, ed)))
		}
		want, _ = Norm(100, want...)
		if got := Move(l, ed); !slices.Equal(got, want) {
			t.Fatalf("Move of %v: %v, not %v", l, got, want)
		}
	}
}
