package rxtree

import (
	"math/rand"
	"testing"

	"gimlet/api"
)

func lit(c string) api.Rx { return api.Rx{Kind: api.RxChar, Char: c} }

func kind(k int, kids ...api.Rx) api.Rx { return api.Rx{Kind: k, Kids: kids} }

func group(kids ...api.Rx) api.Rx { return kind(api.RxGroup, kids...) }

func bare(kids ...api.Rx) api.Rx { return kind(api.RxBare, kids...) }

func repeat(kid api.Rx, from, to int) api.Rx {
	return api.Rx{Kind: api.RxRepeat, Min: from, Max: to, Kids: []api.Rx{kid}}
}

func set(not bool, rows ...api.Row) api.Rx { return api.Rx{Kind: api.RxSet, Not: not, Rows: rows} }

var a, b, c = lit("a"), lit("b"), lit("c")

func nested(n int) api.Rx {
	x := a
	for i := range n {
		x = kind(api.RxGroup+i%2, x)
	}
	return x
}

func many(n int) api.Rx {
	x := kind(api.RxSeq)
	for range n {
		x.Kids = append(x.Kids, a)
	}
	return x
}

func TestP13_1May(t *testing.T) {
	for i, x := range []api.Rx{
		{}, {Kids: []api.Rx{}}, kind(api.RxSeq, a, b), kind(api.RxAlt, a, kind(api.RxSeq)), kind(api.RxAlt, kind(api.RxSeq, a, b), c),
		lit("\xff\x80"), kind(api.RxAny), kind(api.RxFirst), kind(api.RxLast), kind(api.RxEdge), kind(api.RxInner),
		set(false), set(true, api.Row{From: "a", To: "b"}), group(kind(api.RxSeq)), bare(kind(api.RxAlt, a, b)), group(repeat(a, 0, 0)),
		repeat(a, 0, -1), repeat(group(a), 255, 255), repeat(bare(a), 255, -1), repeat(kind(api.RxAny), 3, 4), repeat(set(true), 0, 1),
		{Kind: api.RxRepeat, Lazy: true, Kids: []api.Rx{a}}, nested(api.MaxGroups), many(2*api.MaxRx - 1),
	} {
		if !May(x) {
			t.Errorf("tree %d is valid", i)
		}
	}
	with := func(x api.Rx, f func(x *api.Rx)) api.Rx {
		f(&x)
		return x
	}
	for i, x := range []api.Rx{
		kind(api.RxSeq, a), kind(api.RxSeq, a, kind(api.RxSeq)), kind(api.RxSeq, a, kind(api.RxAlt, a, b)), kind(api.RxAlt), kind(api.RxAlt, a),
		kind(api.RxAlt, a, kind(api.RxAlt, a, b)), lit(""), lit("ab"), lit("\x80"), kind(api.RxChar), kind(api.RxAny, a), kind(api.RxFirst, a),
		set(false, api.Row{From: "b", To: "a"}), set(false, api.Row{From: "a", To: "b"}, api.Row{From: "b", To: "c"}),
		group(), group(a, b), bare(), bare(a, b), repeat(repeat(a, 0, 1), 0, 1), repeat(kind(api.RxFirst), 0, 1), repeat(kind(api.RxSeq), 0, 1),
		repeat(kind(api.RxAlt, a, b), 0, 1), repeat(a, -1, 1), repeat(a, 2, 1), repeat(a, 256, -1), repeat(a, 0, 256), repeat(a, 0, -2),
		{Kind: api.RxRepeat, Max: 1}, {Kind: 12}, {Kind: -1}, nested(api.MaxGroups + 1), many(2 * api.MaxRx), group(kind(api.RxSeq, a)),
		with(a, func(x *api.Rx) { x.Not = true }), with(a, func(x *api.Rx) { x.Rows = []api.Row{{From: "a", To: "a"}} }),
		with(a, func(x *api.Rx) { x.Min = 1 }), with(a, func(x *api.Rx) { x.Max = 1 }), with(a, func(x *api.Rx) { x.Lazy = true }),
		with(a, func(x *api.Rx) { x.Kids = []api.Rx{b} }), with(group(a), func(x *api.Rx) { x.Char = "a" }),
		with(set(false), func(x *api.Rx) { x.Lazy = true }), with(repeat(a, 0, 1), func(x *api.Rx) { x.Not = true }),
		with(kind(api.RxAny), func(x *api.Rx) { x.Not = true }), with(kind(api.RxSeq), func(x *api.Rx) { x.Max = -1 }),
	} {
		if May(x) {
			t.Errorf("tree %d is not valid", i)
		}
	}
}

func TestP13_1MayEndsSoon(t *testing.T) {
	x := kind(api.RxAlt, a, b)
	for range 40 {
		x = kind(api.RxAlt, kind(api.RxSeq, group(x), group(x)), a)
	}
	loop := []api.Rx{{}, {}}
	loop[0].Kids = loop
	if May(x) || May(api.Rx{Kind: api.RxBare, Kids: loop[:1]}) {
		t.Error("a tree that is far too great")
	}
}

func TestP13_1Measures(t *testing.T) {
	x := kind(api.RxSeq, group(group(a)), bare(group(b)))
	if Parts(x) != 7 || Groups(x) != 3 || Deep(x) != 2 {
		t.Errorf("%d parts, %d groups, depth %d", Parts(x), Groups(x), Deep(x))
	}
	if Parts(api.Rx{}) != 1 || Groups(api.Rx{}) != 0 || Deep(kind(api.RxSeq, a, b)) != 0 || Deep(bare(a)) != 1 || Groups(group(a)) != 1 {
		t.Error("small trees")
	}
	if y := repeat(bare(group(repeat(bare(a), 0, 1))), 0, 1); Deep(y) != 3 || Parts(y) != 6 || Groups(y) != 1 {
		t.Error("groups with repetitions between them")
	}
	if y := nested(60000); Deep(y) != 60000 || Parts(y) != 60001 || Groups(y) != 30000 {
		t.Error("a deep tree")
	}
}

func TestP13_1Same(t *testing.T) {
	x := func() api.Rx {
		return kind(api.RxAlt, kind(api.RxSeq, set(true, api.Row{From: "a", To: "b"}), repeat(a, 1, 2)), group(b))
	}
	if !Same(x(), x()) || !Same(api.Rx{Kids: []api.Rx{}}, api.Rx{}) || !Same(api.Rx{}, api.Rx{Rows: []api.Row{}}) {
		t.Error("equal trees")
	}
	for i, change := range []func(y *api.Rx){
		func(y *api.Rx) { y.Kind = api.RxSeq }, func(y *api.Rx) { y.Kids[0].Kids[0].Rows[0].To = "c" },
		func(y *api.Rx) { y.Kids[0].Kids[0].Not = false }, func(y *api.Rx) { y.Kids[0].Kids[1].Min = 0 },
		func(y *api.Rx) { y.Kids[0].Kids[1].Max = 3 }, func(y *api.Rx) { y.Kids[0].Kids[1].Lazy = true },
		func(y *api.Rx) { y.Kids[1].Kids[0].Char = "c" }, func(y *api.Rx) { y.Kids = y.Kids[:1] },
	} {
		y := x()
		if change(&y); Same(x(), y) {
			t.Errorf("change %d is not seen", i)
		}
	}
}

func TestP13_2SeqAlt(t *testing.T) {
	abc := kind(api.RxSeq, a, b, c)
	for i, got := range []api.Rx{
		Seq(a, Seq(b, c)), Seq(Seq(a, b), Seq(), c), Seq(abc), Seq(Seq(abc)), Seq(Seq(), abc),
	} {
		if !Same(got, abc) {
			t.Errorf("Seq %d: %v", i, got)
		}
	}
	alt := kind(api.RxAlt, a, b, c)
	for i, got := range []api.Rx{Alt(a, Alt(b, c)), Alt(Alt(a, b), c), Alt(alt)} {
		if !Same(got, alt) {
			t.Errorf("Alt %d: %v", i, got)
		}
	}
	empty := api.Rx{Kind: api.RxSeq}
	if !Same(Seq(), empty) || !Same(Alt(), empty) || !Same(Seq(a), a) || !Same(Alt(a), a) || !Same(Seq(Seq(), a), a) ||
		!Same(Seq(Seq(), Seq()), empty) || !Same(Alt(empty), empty) || !Same(Alt(empty, a), kind(api.RxAlt, empty, a)) {
		t.Error("none or one")
	}
	// Only the arguments themselves are replaced by their kids.
	if got := Seq(kind(api.RxSeq, kind(api.RxSeq, a, b), c)); !Same(got, kind(api.RxSeq, kind(api.RxSeq, a, b), c)) {
		t.Errorf("a sequence in a sequence: %v", got)
	}
}

func TestP13_2ResultsAreValid(t *testing.T) {
	rnd := rand.New(rand.NewSource(16))
	trees := []api.Rx{a, b, {}, set(true), kind(api.RxEdge)}
	for range 3000 {
		x, y := trees[rnd.Intn(len(trees))], trees[rnd.Intn(len(trees))]
		var z api.Rx
		switch rnd.Intn(4) {
		case 0:
			z = Alt(x, y)
		case 1:
			if x.Kind == api.RxAlt || y.Kind == api.RxAlt {
				continue
			}
			z = Seq(x, y)
		case 2:
			z = kind(api.RxGroup+rnd.Intn(2), x)
		case 3:
			z = repeat(bare(x), rnd.Intn(3), -1)
		}
		if Parts(z) > 100 || Deep(z) > api.MaxGroups {
			continue
		}
		if !May(z) {
			t.Fatalf("%v is not valid", z)
		}
		trees = append(trees, z)
	}
}

func TestR4SeqAndAltShareNothing(t *testing.T) {
	x := kind(api.RxSeq, group(set(false, api.Row{From: "a", To: "b"})), b)
	for _, y := range []api.Rx{Seq(x, x), Alt(x, a), Seq(x)} {
		y.Kids[0].Kids = append(y.Kids[0].Kids[:0], c)
		y.Kids[1].Char = "z"
	}
	if !Same(x, kind(api.RxSeq, group(set(false, api.Row{From: "a", To: "b"})), b)) {
		t.Error("the argument is changed")
	}
}
