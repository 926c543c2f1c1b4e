package deep

import (
	"testing"

	"gimlet/api"
)

func rx() api.Rx {
	return api.Rx{Kind: api.RxAlt, Kids: []api.Rx{{Kind: api.RxSet, Rows: []api.Row{{From: "a", To: "b"}}}, {Kind: api.RxAny}}}
}

func form() api.Form {
	return api.Form{Rx: rx(), Fmts: []api.Fmt{{Kind: api.FmtText, Then: "x"}}, All: true}
}

func snip() api.Snip {
	return api.Snip{Kind: api.SnStop, N: 1, Form: form(), Opts: []string{"o"}, Kids: []api.Snip{{Text: "t", Form: form()}}}
}

func state() api.State {
	stop := api.Stop{N: 1, Form: form(), Opts: []string{"o"}}
	return api.State{Text: "t", Sels: []api.Sel{{}}, Sessions: []api.Session{{Insts: []api.Inst{{Stops: []api.Stop{stop}}}}}}
}

func TestCopiesAreApart(t *testing.T) {
	for i, change := range []func(x *api.Rx){
		func(x *api.Rx) { x.Kids[0].Rows[0].To = "z" }, func(x *api.Rx) { x.Kids[1].Kind = api.RxFirst },
	} {
		x := rx()
		y := Rx(x)
		if change(&y); !SameRx(x, rx()) || SameRx(x, y) {
			t.Errorf("Rx, change %d", i)
		}
	}
	for i, change := range []func(s *api.Snip){
		func(s *api.Snip) { s.Opts[0] = "z" }, func(s *api.Snip) { s.Kids[0].Text = "z" }, func(s *api.Snip) { s.Form.Fmts[0].Then = "z" },
		func(s *api.Snip) { s.Form.Rx.Kids[0].Rows[0].To = "z" }, func(s *api.Snip) { s.Kids[0].Form.Rx.Kids[0].Not = true },
	} {
		x := snip()
		y := Snip(x)
		if change(&y); !SameSnip(x, snip()) || SameSnip(x, y) {
			t.Errorf("Snip, change %d", i)
		}
	}
	for i, change := range []func(s *api.State){
		func(s *api.State) { s.Text = "z" }, func(s *api.State) { s.Sels[0].Head = 9 }, func(s *api.State) { s.Sessions[0].Cur = 9 },
		func(s *api.State) { s.Sessions[0].Insts[0].To = 9 }, func(s *api.State) { s.Sessions[0].Insts[0].Stops[0].Up = 9 },
		func(s *api.State) { s.Sessions[0].Insts[0].Stops[0].Opts[0] = "z" },
		func(s *api.State) { s.Sessions[0].Insts[0].Stops[0].Form.Fmts[0].N = 9 },
	} {
		x := state()
		y := State(x)
		if change(&y); !SameState(x, state()) || SameState(x, y) {
			t.Errorf("State, change %d", i)
		}
	}
}

func TestEmptyListsAreNil(t *testing.T) {
	if List([]int{}) != nil || Rx(api.Rx{Kids: []api.Rx{}}).Kids != nil {
		t.Error("an empty list is copied as it is")
	}
	if !SameRx(api.Rx{Rows: []api.Row{}}, api.Rx{}) || !SameSnip(api.Snip{Opts: []string{}}, api.Snip{}) {
		t.Error("nil and empty lists differ")
	}
}
