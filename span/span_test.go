package span

import (
	"math"
	"math/rand"
	"slices"
	"testing"

	"gimlet/api"
)

func sp(from, to int) api.Span { return api.Span{From: from, To: to} }

func TestP5_1May(t *testing.T) {
	for _, c := range []struct {
		s    api.Span
		n    int
		want bool
	}{
		{sp(0, 2), 2, true}, {sp(0, 2), 1, false}, {sp(2, 2), 2, true}, {sp(0, 0), 0, true}, {sp(-1, 0), 5, false},
		{sp(2, 1), 5, false}, {sp(0, 0), -1, false}, {sp(math.MinInt, math.MaxInt), 3, false}, {sp(0, math.MaxInt), math.MaxInt, true},
	} {
		if May(c.s, c.n) != c.want {
			t.Errorf("May(%v, %d)", c.s, c.n)
		}
	}
}

func TestP5_1Relations(t *testing.T) {
	if !Has(sp(1, 2), 1) || !Has(sp(1, 2), 2) || Has(sp(1, 2), 0) || Has(sp(1, 2), 3) || Has(sp(2, 1), 1) {
		t.Error("Has")
	}
	for _, c := range []struct {
		a, b                   api.Span
		within, overlap, touch bool
	}{
		{sp(1, 1), sp(0, 2), true, false, true},
		{sp(0, 2), sp(0, 2), true, true, true},
		{sp(0, 2), sp(1, 2), false, true, true},
		{sp(0, 2), sp(2, 3), false, false, true},
		{sp(0, 2), sp(3, 3), false, false, false},
		{sp(2, 2), sp(2, 2), true, false, true},
		{sp(3, 1), sp(0, 4), true, false, false},
		{sp(5, 5), sp(9, 1), false, false, false},
		{sp(-4, -2), sp(-3, 9), false, true, true},
	} {
		if Within(c.a, c.b) != c.within || Overlap(c.a, c.b) != c.overlap || Touch(c.a, c.b) != c.touch {
			t.Errorf("%v and %v", c.a, c.b)
		}
		if Overlap(c.b, c.a) != c.overlap || Touch(c.b, c.a) != c.touch {
			t.Errorf("%v and %v the other way round", c.a, c.b)
		}
	}
}

// slowUnion does what the chapter says, pair by pair.
func slowUnion(l []api.Span) []api.Span {
	var all []api.Span
	for _, s := range l {
		if s.From <= s.To {
			all = append(all, s)
		}
	}
	for again := true; again; {
		again = false
		for i := 0; i < len(all) && !again; i++ {
			for j := i + 1; j < len(all) && !again; j++ {
				if Touch(all[i], all[j]) {
					all[i] = sp(min(all[i].From, all[j].From), max(all[i].To, all[j].To))
					all = slices.Delete(all, j, j+1)
					again = true
				}
			}
		}
	}
	slices.SortFunc(all, func(a, b api.Span) int { return a.From - b.From })
	return all
}

func slowApart(l []api.Span) bool {
	for i, a := range l {
		if a.From > a.To {
			return false
		}
		for _, b := range l[i+1:] {
			if a.From == b.From || a.From < b.From && b.From < a.To || b.From < a.From && a.From < b.To {
				return false
			}
		}
	}
	return true
}

func TestP5_2UnionApart(t *testing.T) {
	if got := Union(sp(1, 2), sp(4, 4), sp(2, 3)); !slices.Equal(got, []api.Span{sp(1, 3), sp(4, 4)}) {
		t.Errorf("the example of Union: %v", got)
	}
	if !Apart(sp(2, 4), sp(0, 2)) || Apart(sp(1, 1), sp(1, 2)) || Apart(sp(1, 1), sp(1, 1)) || !Apart() || Apart(sp(2, 1)) {
		t.Error("the examples of Apart")
	}
	if !Apart(sp(0, 2), sp(2, 2)) || Apart(sp(0, 0), sp(0, 2)) || len(Union()) != 0 || len(Union(sp(1, 0))) != 0 {
		t.Error("edges")
	}
	rnd := rand.New(rand.NewSource(6))
	for range 5000 {
		l := make([]api.Span, rnd.Intn(6))
		for i := range l {
			from := rnd.Intn(14) - 2
			l[i] = sp(from, from+rnd.Intn(5)-rnd.Intn(2))
		}
		kept := slices.Clone(l)
		if got, want := Union(l...), slowUnion(l); !slices.Equal(got, want) {
			t.Fatalf("Union of %v: %v, not %v", l, got, want)
		}
		if Apart(l...) != slowApart(l) {
			t.Fatalf("Apart of %v", l)
		}
		if !slices.Equal(l, kept) {
			t.Fatal("R4: the arguments are changed")
		}
	}
}
