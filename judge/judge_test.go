package judge

import (
	"math/rand"
	"slices"
	"testing"

	"gimlet/api"
	"gimlet/deep"
	"gimlet/dice"
	"gimlet/editor"
	"gimlet/xform"
)

func insert(s string) api.Op { return api.Op{Kind: api.OpInsert, Text: s} }

func typed(s string) api.Op { return api.Op{Kind: api.OpType, Text: s} }

// after returns the state of an editor after operations that are all accepted.
func after(t *testing.T, os ...api.Op) api.State {
	t.Helper()
	e, _ := editor.New(dice.New())
	for k, o := range os {
		if code := e.Do(o); code != api.OK {
			t.Fatalf("operation %d: %d", k, code)
		}
	}
	return e.State()
}

func TestP32_1Wrong(t *testing.T) {
	good := func() api.State {
		return after(t, insert("${1:a}-$1|${1/a/b/}|${2:x}$2"), typed("a"), insert("${1:c}$1${1/c/d/}"))
	}
	if w := Wrong(good()); w != 0 {
		t.Errorf("a good state: %d", w)
	}
	if w := Wrong(after(t, insert("${1:a}-$1"))); w != 0 {
		t.Errorf("the example: %d", w)
	}
	form, _, _ := xform.Reads("/(a*)*b/x/}", 0)
	for k, c := range []struct {
		change func(s *api.State)
		want   int
	}{
		{func(s *api.State) { s.Sels = nil }, 1},
		{func(s *api.State) { s.Sessions[0].Insts[0].To = 99 }, 1},
		{func(s *api.State) { s.Text = "b" + s.Text[1:] }, 2},
		{func(s *api.State) { s.Sessions[0].Insts[0].Stops[3].N = 1 }, 2},
		{func(s *api.State) { s.Sessions[1].Insts[0].Stops[0].N = 0 }, 2},
		{func(s *api.State) { s.Sessions[0].Insts[0].Stops[2].Form.Fmts[0].Then = "z" }, 3},
		{func(s *api.State) { s.Sessions[1].Insts[0].Stops[2].Form = form }, 3},
		{func(s *api.State) { s.Sessions[1].Insts[0].Stops[2].Form.Rx.Kind = api.RxGroup }, 3},
		{func(s *api.State) { s.Sessions[1].Cur = 7 }, 4},
		{func(s *api.State) { s.Sessions = s.Sessions[:1]; s.Sessions[0].Cur = -4 }, 4},
		{func(s *api.State) { s.Sessions[1].Cur = 0 }, 0},
		{func(s *api.State) { s.Sessions[1].Insts[0].Stops[2].N = 9 }, 0}, // without a source
		{func(s *api.State) {
			s.Sessions[1].Cur = 7
			s.Sessions[0].Insts[0].Stops[2].Form.Fmts[0].Then = "z"
		}, 3},
	} {
		st := good()
		c.change(&st)
		if w := Wrong(st); w != c.want {
			t.Errorf("change %d: %d, not %d", k, w, c.want)
		}
	}
	if Wrong(api.State{}) != 1 || Wrong(api.State{Sels: make([]api.Sel, 1)}) != 0 {
		t.Error("empty states")
	}
}

func TestP32_1FuelOfATransform(t *testing.T) {
	st := after(t, insert("${1:aaaaaaaaaaaaaaaaaaaaaaaaaaaaaab}${1/(a*)*b/x/}"))
	if w := Wrong(st); w != 0 {
		t.Fatalf("%d", w)
	}
	st.Text = st.Text[:30] + "c" + st.Text[31:]
	if w := Wrong(st); w != 3 {
		t.Errorf("a transform without enough fuel: %d", w)
	}
}

func TestP32_2Model(t *testing.T) {
	codes, states := Model([]api.Op{insert("${1:a}-$1"), typed("b"), {Kind: api.OpPrev}, {Kind: api.OpUndo}, {Kind: 99}})
	if !slices.Equal(codes, []api.Errno{api.OK, api.OK, api.ErrNone, api.OK, api.ErrArg}) || len(states) != 5 {
		t.Fatalf("%v", codes)
	}
	for k, want := range []string{"a-a", "b-b", "b-b", "a-a", "a-a"} {
		if states[k].Text != want || len(states[k].Sessions) != 1 {
			t.Errorf("state %d: %q", k, states[k].Text)
		}
	}
	states[0].Sessions[0].Insts[0].Stops[0].N = 9
	states[0].Sels[0].Head = 9
	if states[4].Sessions[0].Insts[0].Stops[0].N != 1 || states[4].Sels[0].Head != 1 {
		t.Error("R4: the states share memory")
	}
	if codes, states := Model(nil); len(codes) != 0 || len(states) != 0 {
		t.Error("no operations")
	}
	if codes, states := Model([]api.Op{typed("a")}, api.Pair{Name: "9"}); codes != nil || states != nil {
		t.Error("an environment that the editor refuses")
	}
	if _, states := Model([]api.Op{insert("$V$V1")}, api.Pair{Name: "V", Value: "x"}, api.Pair{Name: "V", Value: "y"}); states[0].Text != "yV1" {
		t.Errorf("the environment: %q", states[0].Text)
	}
}

func TestP32_3Same(t *testing.T) {
	st := after(t, insert("${1|a,b|}-${1/a/b/}"))
	other := deep.State(st)
	if !Same(st, other) || !Same(api.State{}, api.State{Sels: []api.Sel{}, Sessions: []api.Session{}}) {
		t.Error("equal states")
	}
	for k, change := range []func(s *api.State){
		func(s *api.State) { s.Text += "x" }, func(s *api.State) { s.Sels[0].Anchor++ }, func(s *api.State) { s.Sels = nil }, func(s *api.State) { s.Sessions[0].Cur++ },
		func(s *api.State) { s.Sessions = nil }, func(s *api.State) { s.Sessions[0].Insts[0].To++ }, func(s *api.State) { s.Sessions[0].Insts[0].Stops[0].From++ },
		func(s *api.State) { s.Sessions[0].Insts[0].Stops[0].First = false }, func(s *api.State) { s.Sessions[0].Insts[0].Stops[0].Opts[1] = "c" },
		func(s *api.State) { s.Sessions[0].Insts[0].Stops[1].Turned = false }, func(s *api.State) { s.Sessions[0].Insts[0].Stops[1].Up = 0 },
		func(s *api.State) { s.Sessions[0].Insts[0].Stops[1].Form.All = true }, func(s *api.State) { s.Sessions[0].Insts[0].Stops[1].Form.Rx.Char = "b" },
		func(s *api.State) { s.Sessions[0].Insts[0].Stops[1].Form.Fmts = nil }, func(s *api.State) { s.Sessions[0].Insts[0].Stops[1].N++ },
	} {
		other := deep.State(st)
		if change(&other); Same(st, other) || Same(other, st) {
			t.Errorf("change %d is not seen", k)
		}
	}
}

func TestP32_3Prefix(t *testing.T) {
	if n := Prefix([]uint32{5}, []api.Op{typed("a")}); n != 1 {
		t.Errorf("the example: %d", n)
	}
	if Prefix(nil, nil) != 0 || Prefix(nil, []api.Op{typed("a")}, api.Pair{Name: "9"}) != 0 {
		t.Error("no operations; an environment that is refused")
	}
	if n := Prefix(nil, []api.Op{{Kind: 99}, {Kind: api.OpUndo}, insert("$V"), {Kind: api.OpUndo}}, api.Pair{Name: "V", Value: "x"}); n != 4 {
		t.Errorf("operations that are refused: %d", n)
	}
}

// randomRun returns operations that depend on the state that is reached.
func randomRun(rnd *rand.Rand, n int, env ...api.Pair) ([]api.Op, []api.Errno, []api.State) {
	e, _ := editor.New(dice.New(), env...)
	var os []api.Op
	var codes []api.Errno
	var states []api.State
	for range n {
		o := randomOp(rnd, len(e.State().Text))
		os = append(os, o)
		codes = append(codes, e.Do(o))
		states = append(states, e.State())
	}
	return os, codes, states
}

func TestP32_4Random(t *testing.T) {
	rnd := rand.New(rand.NewSource(34))
	deepest := 0
	for range 2000 {
		env := []api.Pair{{Name: "V2", Value: "v"}}
		os, codes, states := randomRun(rnd, 30, env...)
		for k, st := range states {
			if w := Wrong(st); w != 0 {
				t.Fatalf("%+v: operation %d, code %d: %+v is wrong by %d", os[:k+1], k, codes[k], st, w)
			}
			deepest = max(deepest, len(st.Sessions))
		}
		nums := make([]uint32, rnd.Intn(50))
		for i := range nums {
			nums[i] = rnd.Uint32() % 5
		}
		if n := Prefix(nums, os, env...); n != len(os) {
			t.Fatalf("Prefix of %+v: %d", os, n)
		}
		modelCodes, modelStates := Model(os, env...)
		if !slices.Equal(modelCodes, codes) || !slices.EqualFunc(modelStates, states, Same) {
			t.Fatalf("Model of %+v", os)
		}
	}
	if deepest < 4 {
		t.Errorf("at most %d sessions", deepest)
	}
}

// What is undone is as it was, whatever came before.
func TestT5Random(t *testing.T) {
	rnd := rand.New(rand.NewSource(36))
	for range 300 {
		e, _ := editor.New(dice.New())
		for range 40 {
			before := e.State()
			o := randomOp(rnd, len(before.Text))
			code := e.Do(o)
			after := e.State()
			if code != api.OK && !Same(before, after) {
				t.Fatalf("%+v: %d changes the state", o, code)
			}
			if code != api.OK || o.Kind <= api.OpSet || o.Kind == api.OpSelect || o.Kind == api.OpMove || o.Kind >= api.OpUndo {
				continue
			}
			if e.Do(api.Op{Kind: api.OpUndo}) != api.OK || !Same(e.State(), before) || e.Do(api.Op{Kind: api.OpRedo}) != api.OK || !Same(e.State(), after) {
				t.Fatalf("%+v, undone and redone", o)
			}
		}
	}
}
