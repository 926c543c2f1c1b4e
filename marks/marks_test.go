package marks

import (
	"math"
	"math/rand"
	"slices"
	"strings"
	"testing"

	"gimlet/api"
	"gimlet/change"
	"gimlet/span"
)

func rg(from, to, parent int) api.Range {
	return api.Range{Span: api.Span{From: from, To: to}, Parent: parent}
}

func ed(from, to int, text string) api.Edit {
	return api.Edit{Span: api.Span{From: from, To: to}, Text: text}
}

// table returns one with ranges that are all accepted.
func table(t *testing.T, rs ...api.Range) *Table {
	t.Helper()
	tab := New()
	for i, r := range rs {
		if id, e := tab.Add(r); id != i+1 || e != api.OK {
			t.Fatalf("Add of %v: %d, %d", r, id, e)
		}
	}
	return tab
}

func TestP7_1Add(t *testing.T) {
	tab := table(t, rg(2, 5, 0), rg(0, api.MaxDoc, 0), rg(2, 5, 1), rg(5, 5, 3))
	for _, c := range []struct {
		r    api.Range
		want api.Errno
	}{
		{rg(-1, 2, 77), api.ErrRange}, {rg(3, 2, 77), api.ErrRange}, {rg(0, api.MaxDoc+1, 0), api.ErrRange},
		{rg(0, 9, 77), api.ErrNone}, {rg(0, 9, -1), api.ErrNone}, {rg(0, 9, 5), api.ErrNone},
		{rg(1, 3, 1), api.ErrArg}, {rg(2, 6, 1), api.ErrArg},
	} {
		if id, e := tab.Add(c.r); id != 0 || e != c.want {
			t.Errorf("Add of %v: %d, %d, not %d", c.r, id, e, c.want)
		}
	}
	if id, e := tab.Add(rg(0, 0, 0)); id != 5 || e != api.OK {
		t.Errorf("a refused Add takes an id: %d", id)
	}
	tab.Drop(5)
	if id, _ := tab.Add(rg(0, 0, 0)); id != 6 {
		t.Errorf("an id is used again: %d", id)
	}
}

func TestP7_1Full(t *testing.T) {
	tab := New()
	for range api.MaxMarks {
		tab.Add(rg(1, 2, 0))
	}
	if id, e := tab.Add(rg(1, 2, 0)); id != 0 || e != api.ErrFull {
		t.Errorf("one too many: %d, %d", id, e)
	}
	if _, e := tab.Add(rg(0, 2, 1)); e != api.ErrArg {
		t.Error("ErrArg comes first")
	}
	if tab.Drop(7) != api.OK || len(tab.Ids()) != api.MaxMarks-1 {
		t.Error("Drop")
	}
	if id, e := tab.Add(rg(1, 2, 0)); id != api.MaxMarks+1 || e != api.OK {
		t.Errorf("Add after Drop: %d, %d", id, e)
	}
}

func TestP7_1GetPose(t *testing.T) {
	tab := table(t, rg(2, 5, 0), rg(3, 4, 1))
	want := rg(3, 4, 1)
	if r, ok := tab.Get(2); !ok || r != want {
		t.Error("Get")
	}
	want.ToRight = true
	if tab.Pose(2, false, true) != api.OK {
		t.Error("Pose")
	}
	if r, _ := tab.Get(2); r != want {
		t.Errorf("Pose: %v", r)
	}
	want.FromRight, want.ToRight = true, false
	tab.Pose(2, true, false)
	if r, _ := tab.Get(2); r != want {
		t.Errorf("Pose: %v", r)
	}
	for _, id := range []int{0, -1, 3, math.MinInt, math.MaxInt} {
		if r, ok := tab.Get(id); ok || r != (api.Range{}) || tab.Pose(id, true, true) != api.ErrNone || tab.Drop(id) != api.ErrNone {
			t.Errorf("id %d", id)
		}
	}
}

func TestP7_1DropIdsKidsAt(t *testing.T) {
	tab := table(t, rg(0, 9, 0), rg(2, 9, 1), rg(2, 4, 2), rg(5, 6, 1), rg(9, 9, 0), rg(1, 1, 0))
	if !slices.Equal(tab.Ids(), []int{1, 2, 3, 4, 5, 6}) || !slices.Equal(tab.Kids(0), []int{1, 5, 6}) ||
		!slices.Equal(tab.Kids(1), []int{2, 4}) || len(tab.Kids(3)) != 0 || len(tab.Kids(99)) != 0 {
		t.Error("Ids, Kids")
	}
	if !slices.Equal(tab.At(2), []int{1, 2, 3}) || !slices.Equal(tab.At(9), []int{1, 2, 5}) || len(tab.At(10)) != 0 || len(tab.At(-1)) != 0 {
		t.Error("At")
	}
	twin := tab.Twin()
	if tab.Drop(1) != api.OK || !slices.Equal(tab.Ids(), []int{5, 6}) {
		t.Errorf("Drop: %v", tab.Ids())
	}
	if _, ok := tab.Get(3); ok {
		t.Error("a dropped range is there")
	}
	if !slices.Equal(twin.Ids(), []int{1, 2, 3, 4, 5, 6}) || twin.Drop(2) != api.OK || !slices.Equal(twin.Ids(), []int{1, 4, 5, 6}) {
		t.Error("Drop of one in the middle; the twin")
	}
	a, _ := tab.Add(rg(0, 0, 0))
	b, _ := twin.Add(rg(1, 1, 0))
	if a != 7 || b != 7 || len(tab.Ids()) != 3 || len(twin.Ids()) != 5 {
		t.Error("the twins' next ids")
	}
}

func TestP7_2Move(t *testing.T) {
	tab := table(t, rg(2, 5, 0))
	if tab.Move(ed(2, 2, "xy")) != api.OK {
		t.Error("Move")
	}
	if r, _ := tab.Get(1); r != rg(2, 7, 0) {
		t.Errorf("the example: %v", r)
	}
	for _, c := range []struct {
		es   []api.Edit
		want api.Errno
	}{
		{[]api.Edit{ed(0, 3, ""), ed(2, 1, "")}, api.ErrRange}, {[]api.Edit{ed(0, api.MaxDoc+1, "")}, api.ErrRange},
		{[]api.Edit{ed(-1, 0, "")}, api.ErrRange}, {[]api.Edit{ed(0, 3, ""), ed(2, 3, "")}, api.ErrOverlap},
	} {
		if e := tab.Move(c.es...); e != c.want {
			t.Errorf("%v: %d", c.es, e)
		}
	}
	if r, _ := tab.Get(1); r != rg(2, 7, 0) {
		t.Errorf("a refused Move moves: %v", r)
	}
	tab.Move(ed(0, 0, strings.Repeat("x", api.MaxDoc)))
	if r, _ := tab.Get(1); r != rg(2+api.MaxDoc, 7+api.MaxDoc, 0) {
		t.Errorf("beyond MaxDoc: %v", r)
	}
}

func TestP7_2FlagsAndParents(t *testing.T) {
	for _, c := range []struct {
		fromRight, toRight bool
		want               api.Span
	}{
		{false, false, api.Span{From: 3, To: 3}}, {false, true, api.Span{From: 3, To: 5}},
		{true, true, api.Span{From: 5, To: 5}}, {true, false, api.Span{From: 3, To: 3}},
	} {
		tab := table(t, api.Range{Span: api.Span{From: 3, To: 3}, FromRight: c.fromRight, ToRight: c.toRight})
		tab.Move(ed(3, 3, "xy"))
		if r, _ := tab.Get(1); r.Span != c.want {
			t.Errorf("%v: %v", c, r)
		}
	}
	tab := New()
	tab.Add(api.Range{Span: api.Span{From: 2, To: 4}, FromRight: true})
	tab.Add(api.Range{Span: api.Span{From: 2, To: 4}, ToRight: true, Parent: 1})
	tab.Move(ed(2, 2, "xy"), ed(4, 4, "z"))
	if r, _ := tab.Get(2); r.Span != (api.Span{From: 4, To: 6}) {
		t.Errorf("a range leaves its parent: %v", r)
	}
}

func TestP7_3Nested(t *testing.T) {
	rnd := rand.New(rand.NewSource(9))
	for range 300 {
		tab := New()
		for range 12 {
			from := rnd.Intn(20)
			tab.Add(api.Range{Span: api.Span{From: from, To: from + rnd.Intn(6)}, FromRight: rnd.Intn(2) == 0,
				ToRight: rnd.Intn(2) == 0, Parent: rnd.Intn(len(tab.Ids()) + 1)})
		}
		for range 5 {
			es := []api.Edit{}
			for range 3 {
				from := rnd.Intn(25)
				es = append(es, ed(from, from+rnd.Intn(5), "xyz"[:rnd.Intn(4)]))
			}
			before := tab.Twin()
			e := tab.Move(es...)
			for _, id := range tab.Ids() {
				r, _ := tab.Get(id)
				old, _ := before.Get(id)
				if e != api.OK && r != old || r.From > r.To {
					t.Fatalf("%v becomes %v", old, r)
				}
				parent, ok := tab.Get(r.Parent)
				if ok && !span.Within(r.Span, parent.Span) {
					t.Fatalf("%v does not lie in %v", r, parent)
				}
				to := change.Move(old.To, old.ToRight, es...)
				if !ok && e == api.OK && (r.To != to || r.From != min(to, change.Move(old.From, old.FromRight, es...))) {
					t.Fatalf("%v becomes %v", old, r)
				}
			}
		}
	}
}

func TestR3Nil(t *testing.T) {
	var tab *Table
	id, a := tab.Add(rg(0, 0, 0))
	if id != 0 {
		t.Errorf("id %d", id)
	}
	for _, e := range []api.Errno{a, tab.Pose(1, true, true), tab.Drop(1), tab.Move()} {
		if e != api.ErrNil {
			t.Errorf("%d, not ErrNil", e)
		}
	}
	if _, ok := tab.Get(1); ok || tab.Ids() != nil || tab.Kids(0) != nil || tab.At(0) != nil || tab.Twin() != nil {
		t.Error("zero values")
	}
}
