package snode

import (
	"slices"
	"strings"
	"testing"

	"gimlet/api"
)

func text(s string) api.Snip { return api.Snip{Kind: api.SnText, Text: s} }

func stop(n int) api.Snip { return api.Snip{Kind: api.SnStop, N: n} }

func holder(n int, kids ...api.Snip) api.Snip {
	return api.Snip{Kind: api.SnStop, N: n, Has: true, Kids: kids}
}

func choice(n int, opts ...string) api.Snip { return api.Snip{Kind: api.SnChoice, N: n, Opts: opts} }

func variable(name string, kids ...api.Snip) api.Snip {
	return api.Snip{Kind: api.SnVar, Text: name, Has: kids != nil, Kids: kids}
}

func form() api.Form {
	return api.Form{Rx: api.Rx{Kind: api.RxSet, Rows: []api.Row{{From: "a", To: "b"}}}, Fmts: []api.Fmt{{Then: "x"}}}
}

func turned(s api.Snip) api.Snip {
	s.Turned, s.Form = true, form()
	return s
}

func nested(n int) []api.Snip {
	l := []api.Snip{text("x")}
	for i := range n {
		if i%2 == 0 {
			l = []api.Snip{holder(1, l...)}
		} else {
			l = []api.Snip{variable("V", l...)}
		}
	}
	return l
}

func with(s api.Snip, change func(s *api.Snip)) api.Snip {
	change(&s)
	return s
}

func TestP20_1May(t *testing.T) {
	for i, l := range [][]api.Snip{
		nil, {text("a")}, {text("a"), stop(1), text("b")}, {stop(0), stop(api.MaxNumber)}, {holder(1)}, {holder(1, text("a"), holder(1, text("b")))},
		{turned(stop(3))}, {{Kind: api.SnStop, Turned: true}}, {choice(1, "")}, {choice(1, "a", "", "a")}, {variable("A")}, {variable("_9", []api.Snip{}...)},
		{variable("A", text("b"), stop(1))}, {turned(variable("A"))}, nested(api.MaxDeep), {with(stop(1), func(s *api.Snip) { s.Kids, s.Opts = []api.Snip{}, []string{} })},
	} {
		if !May(l) {
			t.Errorf("tree %d is valid", i)
		}
	}
	for i, s := range []api.Snip{
		text(""), stop(-1), stop(api.MaxNumber + 1), choice(1), choice(-1, "a"), choice(api.MaxNumber+1, "a"), variable(""), variable("9a"), variable("a-b"),
		{Kind: 4, Text: "a"}, {Kind: -1}, holder(1, text("")), holder(1, text("a"), text("b")), holder(1, stop(-1)), variable("A", variable("")),
		with(text("a"), func(s *api.Snip) { s.N = 1 }), with(text("a"), func(s *api.Snip) { s.Has = true }), with(text("a"), func(s *api.Snip) { s.Opts = []string{""} }),
		with(text("a"), func(s *api.Snip) { s.Kids = []api.Snip{stop(1)} }), turned(text("a")), with(text("a"), func(s *api.Snip) { s.Form.All = true }),
		with(stop(1), func(s *api.Snip) { s.Text = "a" }), with(stop(1), func(s *api.Snip) { s.Opts = []string{"a"} }), with(stop(1), func(s *api.Snip) { s.Kids = []api.Snip{text("a")} }),
		with(stop(1), func(s *api.Snip) { s.Form = form() }), turned(holder(1)), turned(holder(1, text("a"))), with(turned(stop(1)), func(s *api.Snip) { s.Kids = []api.Snip{text("a")} }),
		with(turned(stop(1)), func(s *api.Snip) { s.Form.Rx.Kind = api.RxGroup }), with(turned(stop(1)), func(s *api.Snip) { s.Form.Fmts = []api.Fmt{{}} }),
		with(holder(1), func(s *api.Snip) { s.Form.Fold = true }), with(stop(1), func(s *api.Snip) { s.Form.Rx.Kids = make([]api.Rx, 1) }),
		with(choice(1, "a"), func(s *api.Snip) { s.Has = true }), with(choice(1, "a"), func(s *api.Snip) { s.Text = "a" }), turned(choice(1, "a")),
		with(choice(1, "a"), func(s *api.Snip) { s.Kids = []api.Snip{text("a")} }), with(variable("A"), func(s *api.Snip) { s.N = 1 }),
		with(variable("A"), func(s *api.Snip) { s.Opts = []string{"a"} }), with(variable("A"), func(s *api.Snip) { s.Kids = []api.Snip{text("a")} }), turned(variable("A", text("a"))),
	} {
		if May([]api.Snip{s}) || May([]api.Snip{stop(1), s}) {
			t.Errorf("part %d is not valid: %v", i, s)
		}
	}
	if May([]api.Snip{text("a"), text("b")}) || May(nested(api.MaxDeep+1)) {
		t.Error("adjacent texts, too deep a tree")
	}
	loop := []api.Snip{holder(1)}
	loop[0].Kids = loop
	if May(loop) {
		t.Error("a tree without an end")
	}
}

func TestP20_1Name(t *testing.T) {
	for _, s := range []string{"a", "_", "Z9_", strings.Repeat("a", api.MaxName)} {
		if !Name(s) {
			t.Errorf("%q is a name", s)
		}
	}
	for _, s := range []string{"", "9a", "a-", "é", "a b", "a\n", strings.Repeat("a", api.MaxName+1), "a\x80"} {
		if Name(s) {
			t.Errorf("%q is no name", s)
		}
	}
}

func TestP20_1Measures(t *testing.T) {
	l := []api.Snip{text("a"), holder(7, text("b"), variable("V", stop(3), holder(7), choice(0, "o"))), turned(stop(9)), variable("W")}
	if Deep(l) != 3 || Parts(l) != 9 || !slices.Equal(Numbers(l), []int{0, 3, 7, 9}) {
		t.Errorf("depth %d, %d parts, numbers %v", Deep(l), Parts(l), Numbers(l))
	}
	if Deep(nil) != 0 || Parts(nil) != 0 || len(Numbers(nil)) != 0 || len(Numbers([]api.Snip{variable("A"), text("b")})) != 0 {
		t.Error("trees without any")
	}
	if Deep(nested(2)) != 2 || Deep([]api.Snip{stop(1)}) != 0 || Deep(nested(60000)) != 60000 {
		t.Error("Deep")
	}
	without := []api.Snip{with(text("a"), func(s *api.Snip) { s.Kids = nested(2) })}
	if Deep(without) != 2 || Parts(without) != 4 || !slices.Equal(Numbers(without), []int{1}) {
		t.Error("kids of a part without Has")
	}
}

func TestP20_1Same(t *testing.T) {
	tree := func() []api.Snip {
		return []api.Snip{text("a"), holder(7, text("b"), choice(1, "x", "y")), turned(stop(9))}
	}
	if !Same(tree(), tree()) || !Same(nil, []api.Snip{}) || !Same([]api.Snip{stop(1)}, []api.Snip{with(stop(1), func(s *api.Snip) { s.Kids = []api.Snip{} })}) {
		t.Error("equal trees")
	}
	for i, change := range []func(l []api.Snip){
		func(l []api.Snip) { l[0].Text = "b" }, func(l []api.Snip) { l[0].Kind = api.SnVar }, func(l []api.Snip) { l[1].N = 8 }, func(l []api.Snip) { l[1].Has = false },
		func(l []api.Snip) { l[1].Kids[1].Opts[1] = "z" }, func(l []api.Snip) { l[1].Kids = l[1].Kids[:1] }, func(l []api.Snip) { l[2].Turned = false },
		func(l []api.Snip) { l[2].Form.Rx.Rows[0].To = "c" }, func(l []api.Snip) { l[2].Form.Fmts[0].Else = "y" }, func(l []api.Snip) { l[2].Form.All = true },
		func(l []api.Snip) { l[2].Form.Fold = true },
	} {
		if l := tree(); true {
			if change(l); Same(l, tree()) {
				t.Errorf("change %d is not seen", i)
			}
		}
	}
	if Same(tree(), tree()[:2]) {
		t.Error("a tree with fewer parts")
	}
}

func TestP20_1Join(t *testing.T) {
	if got := Join(text("a"), text(""), text("b")); !Same(got, []api.Snip{text("ab")}) {
		t.Errorf("the example: %v", got)
	}
	if got := Join(text("a"), stop(1), text("b")); !Same(got, []api.Snip{text("a"), stop(1), text("b")}) {
		t.Errorf("texts of one byte: %v", got)
	}
	if len(Join()) != 0 || len(Join(text(""), text(""))) != 0 {
		t.Error("nothing")
	}
	got := Join(text(""), stop(1), text(""), stop(2), text("a"), text("b"), turned(stop(3)), text(""))
	if !Same(got, []api.Snip{stop(1), stop(2), text("ab"), turned(stop(3))}) {
		t.Errorf("Join: %v", got)
	}
	kids := holder(1, text("a"), text(""), text("b"))
	if got := Join(kids); !Same(got, []api.Snip{kids}) {
		t.Error("kids are changed")
	}
	arg := []api.Snip{holder(1, text("a")), choice(2, "o"), turned(stop(3))}
	got = Join(arg...)
	got[0].Kids[0].Text, got[1].Opts[0], got[2].Form.Rx.Rows[0].To, got[2].Form.Fmts[0].Then = "z", "z", "z", "z"
	if !Same(arg, []api.Snip{holder(1, text("a")), choice(2, "o"), turned(stop(3))}) {
		t.Error("R4: the result shares memory with an argument")
	}
}
