package stops

import (
	"math"
	"math/rand"
	"slices"
	"testing"

	"gimlet/api"
)

func sp(from, to int) api.Span { return api.Span{From: from, To: to} }

func st(from, to, n, up int) api.Stop { return api.Stop{Span: sp(from, to), N: n, Up: up} }

func turned(s api.Stop) api.Stop {
	s.Turned = true
	return s
}

func first(s api.Stop) api.Stop {
	s.First = true
	return s
}

func inst(from, to int, l ...api.Stop) api.Inst { return api.Inst{Span: sp(from, to), Stops: l} }

// of makes an instance whose stops have just these numbers.
func of(numbers ...int) api.Inst {
	i := inst(0, 9)
	for _, n := range numbers {
		i.Stops = append(i.Stops, st(0, 0, n, -1))
	}
	return i
}

func TestP26_1May(t *testing.T) {
	for k, i := range []api.Inst{
		inst(2, 8), inst(0, 9), inst(9, 9), inst(0, 0, st(0, 0, 1, -1), st(0, 0, 1, -1), st(0, 0, 2, 1)),
		inst(2, 8, st(2, 8, 1, -1), st(3, 7, 2, 0), st(3, 5, 3, 1), st(5, 7, 3, 1), st(7, 8, 9, 0), st(8, 8, -5, -1)),
		inst(2, 8, st(2, 4, 1, -1), st(2, 4, 2, 0), st(4, 4, 2, -1), st(4, 6, 2, -1)),
	} {
		if !May(i, 9) {
			t.Errorf("instance %d is valid", k)
		}
	}
	for k, i := range []api.Inst{
		inst(-1, 3), inst(3, 2), inst(3, 10), inst(2, 8, st(1, 3, 1, -1)), inst(2, 8, st(7, 9, 1, -1)), inst(2, 8, st(5, 4, 1, -1)),
		inst(2, 8, st(2, 4, 1, 0)), inst(2, 8, st(2, 4, 1, 1), st(2, 4, 1, -1)), inst(2, 8, st(2, 4, 1, -2)), inst(2, 8, st(2, 4, 1, 5)), inst(2, 8, st(3, 4, 1, math.MinInt)),
		inst(2, 8, st(3, 5, 1, -1), st(2, 4, 1, 0)), inst(2, 8, st(3, 5, 1, -1), st(4, 6, 1, 0)), inst(2, 8, st(3, 5, 1, -1), st(4, 6, 1, -1)),
		inst(2, 8, st(2, 3, 1, -1), st(3, 5, 1, -1), st(2, 3, 1, 0)), inst(2, 8, st(2, 6, 1, -1), st(2, 3, 1, 0), st(4, 5, 1, 0), st(2, 3, 1, 1)),
		inst(2, 8, st(2, 6, 1, -1), st(2, 4, 1, 0), st(3, 3, 1, 1), st(3, 5, 1, 0)), inst(2, 8, st(2, 6, 1, -1), st(3, 3, 1, 2), st(4, 5, 1, 0)),
	} {
		if May(i, 9) {
			t.Errorf("instance %d is not valid", k)
		}
	}
	if May(inst(0, 0), -1) || May(inst(0, 5), 4) {
		t.Error("too short a text")
	}
}

func TestP26_2Numbers(t *testing.T) {
	i := of(2, 0, 1)
	if got := Numbers(i); !slices.Equal(got, []int{1, 2, 0}) {
		t.Errorf("the example: %v", got)
	}
	j := of(7, 2, -3, 9999)
	j.Stops = append(j.Stops, turned(st(0, 0, 4, -1)), turned(st(0, 0, 7, -1)))
	if got := Numbers(i, j); !slices.Equal(got, []int{-3, 1, 2, 7, 9999, 0}) {
		t.Errorf("two instances: %v", got)
	}
	if len(Numbers()) != 0 || len(Numbers(inst(0, 0))) != 0 {
		t.Error("no stops")
	}
}

func TestP26_2Spans(t *testing.T) {
	i := inst(0, 9, st(1, 2, 5, -1), turned(st(2, 3, 5, -1)), st(3, 4, 6, -1), st(5, 9, 5, -1))
	if got := Spans(5, i, inst(0, 9, st(0, 3, 5, -1))); !slices.Equal(got, []api.Span{sp(1, 2), sp(5, 9), sp(0, 3)}) {
		t.Errorf("Spans: %v", got)
	}
	if len(Spans(7, i)) != 0 || len(Spans(5)) != 0 {
		t.Error("a number that does not occur")
	}
}

func TestP26_2NextPrev(t *testing.T) {
	i := of(2, 0, 1, 7)
	for cur, want := range map[int][2]int{1: {2, -1}, 2: {7, 1}, 7: {0, 2}, 0: {-1, 7}, 5: {7, 2}, 8: {0, 7}, -4: {1, -1}, math.MaxInt: {0, 7}, math.MinInt: {1, -1}} {
		for k, f := range []func(int, ...api.Inst) (int, bool){Next, Prev} {
			n, ok := f(cur, i)
			if ok != (want[k] >= 0) || ok && n != want[k] || !ok && n != 0 {
				t.Errorf("from %d, way %d: %d, %v", cur, k, n, ok)
			}
		}
	}
	if n, ok := Next(2, of(1, 2)); n != 0 || ok {
		t.Error("no 0 behind the last one")
	}
	if n, ok := Prev(0, of(0)); n != 0 || ok {
		t.Error("nothing before the only one")
	}
	if n, ok := Next(1, of(1), of(3)); n != 3 || !ok {
		t.Error("two instances")
	}
}

// slowOrder does what the chapter says, number by number.
func slowOrder(i api.Inst) []int {
	var left, all []int
	for _, s := range i.Stops {
		left = append(left, s.N)
	}
	slices.Sort(left)
	left = slices.Compact(left)
	for len(left) > 0 {
		pick := left[0]
		for _, n := range left {
			free := true
			for _, s := range i.Stops {
				for up := s.Up; up >= 0; up = i.Stops[up].Up {
					if i.Stops[up].N == n && s.N != n && slices.Contains(left, s.N) {
						free = false
					}
				}
			}
			if free {
				pick = n
				break
			}
		}
		all = append(all, pick)
		left = slices.DeleteFunc(left, func(n int) bool { return n == pick })
	}
	return all
}

func TestP26_3Order(t *testing.T) {
	for k, c := range []struct {
		i    api.Inst
		want []int
	}{
		{of(2, 0, 1, 2), []int{0, 1, 2}},
		{inst(0, 9, st(0, 9, 1, -1), st(0, 1, 2, 0)), []int{2, 1}},
		{inst(0, 9, st(0, 9, 1, -1), turned(st(0, 1, 2, 0))), []int{2, 1}},
		{inst(0, 9, st(0, 9, 1, -1), st(0, 5, 2, 0), st(0, 1, 3, 1)), []int{3, 2, 1}},
		{inst(0, 9, st(0, 5, 1, -1), st(0, 5, 2, 0), st(6, 9, 2, -1), st(6, 7, 1, 2)), []int{1, 2}},
		{inst(0, 9, st(0, 5, 2, -1), st(0, 5, 3, 0), st(6, 9, 3, -1), st(6, 7, 2, 2), st(6, 7, 4, 3), st(8, 8, 1, -1)), []int{1, 4, 2, 3}},
		{inst(0, 9, st(0, 5, 1, -1), st(0, 5, 1, 0), st(0, 1, 1, 1)), []int{1}},
		{inst(0, 9), nil},
	} {
		if got := Order(c.i); !slices.Equal(got, c.want) {
			t.Errorf("instance %d: %v, not %v", k, got, c.want)
		}
	}
	rnd := rand.New(rand.NewSource(29))
	for range 5000 {
		i := inst(0, 9)
		for k := range rnd.Intn(9) {
			i.Stops = append(i.Stops, st(0, 9, rnd.Intn(5), rnd.Intn(k+1)-1))
		}
		if got, want := Order(i), slowOrder(i); !slices.Equal(got, want) {
			t.Fatalf("%v: %v, not %v", i, got, want)
		}
	}
	Order(inst(0, 9, st(0, 9, 1, 1), st(0, 9, 2, 0), st(0, 9, 3, 99), st(0, 9, 4, 3), st(0, 9, 5, -7)))
}

func TestP26_3Source(t *testing.T) {
	i := inst(0, 9, turned(first(st(0, 0, 1, -1))), st(0, 0, 1, -1), first(st(0, 0, 1, -1)), first(st(0, 0, 1, -1)), st(0, 0, 2, -1), st(0, 0, 2, -1), turned(st(0, 0, 3, -1)))
	two := inst(0, 9, first(st(0, 0, 1, -1)), first(st(0, 0, 1, -1)))
	if Source(two, 1, nil) != 0 || Source(of(1, 1, 1), 1, nil) != 0 || Source(of(1, 1, 1), 1, []bool{true, true}) != 0 {
		t.Error("the stop with index 0")
	}
	for k, c := range []struct {
		n    int
		held []bool
		want int
	}{
		{1, nil, 2}, {1, []bool{true}, 2}, {1, []bool{false, true}, 1}, {1, []bool{true, false, false, true, true}, 3}, {2, nil, 4},
		{2, []bool{true, true, true, true, false, true}, 5}, {2, []bool{false, false, false, false, true, true}, 4}, {3, []bool{true, true, true, true, true, true, true}, -1},
		{9, nil, -1}, {4, nil, -1}, {1, make([]bool, 100), 2}, {1, []bool{false, true, true}, 1},
	} {
		if got := Source(i, c.n, c.held); got != c.want {
			t.Errorf("case %d: %d, not %d", k, got, c.want)
		}
	}
}
