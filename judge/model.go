package judge

import (
	"gimlet/api"
	"gimlet/crew"
	"gimlet/deep"
	"gimlet/dice"
	"gimlet/follow"
	"gimlet/lines"
	"gimlet/motion"
	"gimlet/past"
	"gimlet/rope"
	"gimlet/sels"
	"gimlet/span"
	"gimlet/sread"
	"gimlet/vars"
)

// Model returns the result of each operation and the state after it.
func Model(os []api.Op, env ...api.Pair) ([]api.Errno, []api.State) {
	m, code := newModel(env)
	if code != api.OK {
		return nil, nil
	}
	var codes []api.Errno
	var states []api.State
	for _, o := range os {
		codes = append(codes, m.do(o))
		states = append(states, deep.State(m.now))
	}
	return codes, states
}

// model is an editor that keeps its text as a text. The states that it has had are never changed.
type model struct {
	now  api.State
	vars []api.Pair
	past *past.Past[api.State]
}

func newModel(env []api.Pair) (*model, api.Errno) {
	m := &model{now: api.State{Sels: make([]api.Sel, 1)}}
	for _, p := range env {
		all, code := vars.Set(p.Name, p.Value, m.vars...)
		if code != api.OK {
			return nil, code
		}
		m.vars = all
	}
	var code api.Errno
	m.past, code = past.New[api.State](api.MaxUndo)
	return m, code
}

func (m *model) do(o api.Op) api.Errno {
	switch o.Kind {
	case api.OpSet:
		all, code := vars.Set(o.Name, o.Text, m.vars...)
		if code == api.OK {
			m.vars = all
		}
		return code
	case api.OpSelect:
		l, code := sels.Norm(len(m.now.Text), o.Sels...)
		return m.choose(l, code)
	case api.OpMove:
		l, code := motion.Go(m.lines(), o.N, o.Extend, m.now.Sels...)
		return m.choose(l, code)
	case api.OpUndo:
		return m.travel(m.past.Back)
	case api.OpRedo:
		return m.travel(m.past.Forth)
	}
	next, code := m.after(o)
	if code == api.OK {
		m.past.Push(m.now)
		m.now = next
	}
	return code
}

// after returns what an operation that is kept in the history makes of the state.
func (m *model) after(o api.Op) (api.State, api.Errno) {
	switch o.Kind {
	case api.OpType:
		return follow.Do(m.now, m.typed(o.Text)...)
	case api.OpErase:
		if o.N == 0 {
			return follow.Do(m.now, m.erased(api.GoLeft)...)
		}
		if o.N == 1 {
			return follow.Do(m.now, m.erased(api.GoRight)...)
		}
	case api.OpEdit:
		return follow.Do(m.now, o.Edits...)
	case api.OpInsert:
		l, code := sread.Read(o.Text)
		if code != api.OK {
			return api.State{}, code
		}
		return crew.Insert(m.now, l, m.vars...)
	case api.OpNext:
		return crew.Next(m.now)
	case api.OpPrev:
		return crew.Prev(m.now)
	case api.OpLeave:
		return crew.Leave(m.now)
	case api.OpChoose:
		return crew.Choose(m.now, o.N)
	}
	return api.State{}, api.ErrArg
}

// choose takes over selections, unless there is an error.
func (m *model) choose(l []api.Sel, code api.Errno) api.Errno {
	if code == api.OK {
		m.now.Sels = l
	}
	return code
}

func (m *model) travel(step func(now api.State) (api.State, bool)) api.Errno {
	next, ok := step(m.now)
	if !ok {
		return api.ErrEnd
	}
	m.now = next
	return api.OK
}

// lines returns the lines of the text; only they need a rope.
func (m *model) lines() lines.Lines {
	r, _ := rope.New(dice.New(), m.now.Text)
	return lines.Of(r)
}

func (m *model) typed(text string) []api.Edit {
	var es []api.Edit
	for _, s := range m.now.Sels {
		es = append(es, api.Edit{Span: sels.Span(s), Text: text})
	}
	return es
}

// erased returns the edits that delete the selections and what is between each caret and the place to which it moves.
func (m *model) erased(way int) []api.Edit {
	l := m.lines()
	var gone []api.Span
	for _, s := range m.now.Sels {
		if s.Anchor == s.Head {
			s.Anchor, _ = motion.Step(l, s.Head, way)
		}
		gone = append(gone, sels.Span(s))
	}
	var es []api.Edit
	for _, g := range span.Union(gone...) {
		if g.From < g.To {
			es = append(es, api.Edit{Span: g})
		}
	}
	return es
}
