package change

import (
	"math"
	"math/rand"
	"slices"
	"strings"
	"testing"

	"gimlet/api"
	"gimlet/span"
)

func ed(from, to int, text string) api.Edit {
	return api.Edit{Span: api.Span{From: from, To: to}, Text: text}
}

func TestP6_1May(t *testing.T) {
	big := strings.Repeat("x", api.MaxDoc)
	for _, c := range []struct {
		n    int
		es   []api.Edit
		want api.Errno
	}{
		{4, []api.Edit{ed(0, 2, ""), ed(1, 2, "")}, api.ErrOverlap},
		{4, []api.Edit{ed(0, 2, big), ed(1, 5, big)}, api.ErrRange},
		{4, []api.Edit{ed(0, 2, big), ed(1, 2, big)}, api.ErrOverlap},
		{4, []api.Edit{ed(2, 1, "")}, api.ErrRange},
		{4, []api.Edit{ed(-1, 1, "")}, api.ErrRange},
		{4, []api.Edit{ed(1, 1, "a"), ed(1, 1, "b")}, api.ErrOverlap},
		{4, []api.Edit{ed(2, 4, ""), ed(0, 2, "")}, api.OK},
		{4, []api.Edit{ed(0, 2, "a"), ed(2, 2, "b")}, api.OK},
		{4, []api.Edit{ed(0, 4, big)}, api.OK},
		{4, []api.Edit{ed(0, 3, big)}, api.ErrSize},
		{4, []api.Edit{ed(0, 0, big), ed(0, 4, "")}, api.ErrOverlap},
		{4, nil, api.OK},
		{api.MaxDoc, nil, api.OK},
		{api.MaxDoc + 1, nil, api.ErrSize},
		{api.MaxDoc + 1, []api.Edit{ed(5, 6, "")}, api.OK},
		{-1, []api.Edit{ed(0, 0, "")}, api.ErrRange},
	} {
		if got := May(c.n, c.es...); got != c.want {
			t.Errorf("May(%d, ..): %d, not %d", c.n, got, c.want)
		}
	}
}

func TestP6_1GrownSort(t *testing.T) {
	if Grown(10, ed(0, 1, "xyz"), ed(5, 9, "")) != 8 || Grown(-3) != -3 || Grown(0, ed(5, 2, "a")) != 4 {
		t.Error("Grown")
	}
	es := []api.Edit{ed(4, 4, "a"), ed(1, 3, "b"), ed(4, 4, "c"), ed(1, 2, "d"), ed(9, 0, "e"), ed(4, 4, "f")}
	kept := slices.Clone(es)
	want := []api.Edit{ed(1, 2, "d"), ed(1, 3, "b"), ed(4, 4, "a"), ed(4, 4, "c"), ed(4, 4, "f"), ed(9, 0, "e")}
	got := Sort(es...)
	if !slices.Equal(got, want) || !slices.Equal(es, kept) {
		t.Errorf("Sort: %v", got)
	}
	got[0].Text = "changed"
	if !slices.Equal(es, kept) || len(Sort()) != 0 {
		t.Error("R4: Sort returns its argument")
	}
	sorted := []api.Edit{ed(1, 2, "a")}
	if Sort(sorted...)[0].Text = "b"; sorted[0].Text != "a" {
		t.Error("R4: Sort of what is sorted")
	}
}

func TestP6_1Apply(t *testing.T) {
	if s, e := Apply("abcd", ed(0, 1, "x"), ed(2, 2, "yz")); s != "xbyzcd" || e != api.OK {
		t.Errorf("the example: %q", s)
	}
	if s, e := Apply("abcd", ed(2, 2, "y"), ed(0, 2, "x"), ed(3, 4, "")); s != "xyc" || e != api.OK {
		t.Errorf("edits one behind another: %q", s)
	}
	for _, c := range []struct {
		e    api.Edit
		want api.Errno
	}{{ed(3, 5, ""), api.ErrRange}, {ed(0, 0, strings.Repeat("x", api.MaxDoc)), api.ErrSize}} {
		s, e := Apply("abcd", c.e)
		back, f := Back("abcd", c.e)
		if s != "" || back != nil || e != c.want || f != c.want {
			t.Errorf("%d, %d, not %d", e, f, c.want)
		}
	}
	if s, e := Apply("abcd"); s != "abcd" || e != api.OK {
		t.Error("no edits")
	}
}

func TestP6_2Back(t *testing.T) {
	back, e := Back("abcd", ed(2, 2, "yz"), ed(0, 1, "x"))
	if e != api.OK || !slices.Equal(back, []api.Edit{ed(0, 1, "a"), ed(2, 4, "")}) {
		t.Errorf("the example: %v", back)
	}
	back, _ = Back("abcdef", ed(1, 2, "XY"), ed(2, 2, "Z"), ed(2+1, 4, ""), ed(4, 5, "Q"))
	if !slices.Equal(back, []api.Edit{ed(1, 4, "b"), ed(5, 6, "de")}) {
		t.Errorf("edits one behind another: %v", back)
	}
	if back, _ = Back("ab", ed(1, 1, "")); !slices.Equal(back, []api.Edit{ed(1, 1, "")}) {
		t.Errorf("an edit of nothing: %v", back)
	}
	if back, e = Back("ab"); len(back) != 0 || e != api.OK {
		t.Error("no edits")
	}
}

// apart returns random edits that are apart.
func apart(rnd *rand.Rand, n int) []api.Edit {
	var es []api.Edit
	for range rnd.Intn(5) {
		from := rnd.Intn(n + 1)
		to := min(n, from+rnd.Intn(4))
		es = append(es, ed(from, to, strings.Repeat("x", rnd.Intn(4))))
		if May(n, es...) != api.OK {
			es = es[:len(es)-1]
		}
	}
	return es
}

func TestP6_2BackRestores(t *testing.T) {
	rnd := rand.New(rand.NewSource(7))
	for range 3000 {
		s := "abcdefghijkl"[:rnd.Intn(13)]
		es := apart(rnd, len(s))
		after, e := Apply(s, es...)
		back, f := Back(s, es...)
		if e != api.OK || f != api.OK {
			t.Fatal("edits that are apart are refused")
		}
		if before, e := Apply(after, back...); before != s || e != api.OK {
			t.Fatalf("%q, %v, %v: %q, %d", s, es, back, before, e)
		}
		for i, b := range back {
			if i > 0 && b.From <= back[i-1].To {
				t.Fatalf("%v is not one edit a group", back)
			}
		}
	}
}

func TestP6_3Move(t *testing.T) {
	if Move(2, true, ed(2, 2, "yz")) != 4 || Move(2, false, ed(2, 2, "yz")) != 2 {
		t.Error("the example")
	}
	for at, want := range map[int][2]int{0: {0, 0}, 1: {1, 4}, 2: {1, 4}, 3: {1, 4}, 4: {5, 5}, -5: {-5, -5}} {
		if Move(at, false, ed(1, 3, "xyz")) != want[0] || Move(at, true, ed(1, 3, "xyz")) != want[1] {
			t.Errorf("offset %d", at)
		}
	}
	// The later edit comes first, and the earlier one moves what it made of the offset.
	if got := Move(5, true, ed(3, 5, "a"), ed(5, 5, "bc")); got != 6 {
		t.Errorf("two edits: %d", got)
	}
	if got := Move(2, true, ed(2, 2, "abc"), ed(2, 4, "")); got != 5 {
		t.Errorf("edits in the order of Sort: %d", got)
	}
	if got := Move(3, true, ed(5, 1, "abc")); got != 3 {
		t.Errorf("a span that begins behind its end, an offset before its From: %d", got)
	}
	if got := Move(7, true, ed(5, 1, "abc")); got != 14 {
		t.Errorf("a span that begins behind its end: %d", got)
	}
	if Move(1<<40, true, ed(0, 1, "")) != 1<<40-1 || Move(9, true) != 9 {
		t.Error("great numbers, no edits")
	}
	Move(math.MinInt, true, ed(math.MinInt, math.MaxInt, "a"), ed(math.MaxInt, math.MinInt, ""))
}

func TestP6_4OneByOne(t *testing.T) {
	rnd := rand.New(rand.NewSource(8))
	for range 3000 {
		s := "abcdefghijkl"[:rnd.Intn(13)]
		es := apart(rnd, len(s))
		all, _ := Apply(s, es...)
		one := s
		ats := make([]int, len(s)+1)
		for i := range ats {
			ats[i] = i
		}
		for _, e := range slices.Backward(Sort(es...)) {
			one, _ = Apply(one, e)
			for i := range ats {
				ats[i] = Move(ats[i], i%2 == 0, e)
			}
		}
		if one != all {
			t.Fatalf("%q, %v: %q, %q", s, es, all, one)
		}
		for i, at := range ats {
			if Move(i, i%2 == 0, es...) != at || !span.Has(api.Span{To: len(all)}, at) {
				t.Fatalf("%v: offset %d", es, i)
			}
		}
	}
}
