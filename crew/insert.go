package crew

import (
	"gimlet/api"
	"gimlet/change"
	"gimlet/dice"
	"gimlet/flat"
	"gimlet/follow"
	"gimlet/lead"
	"gimlet/lines"
	"gimlet/rope"
	"gimlet/sels"
	"gimlet/stops"
	"gimlet/vars"
	"gimlet/weave"
)

// Insert inserts a snippet at each selection.
func Insert(st api.State, l []api.Snip, env ...api.Pair) (api.State, api.Errno) {
	if !follow.May(st) {
		return api.State{}, api.ErrArg
	}
	es, all, e := expand(st, l, env)
	if e != api.OK {
		return api.State{}, e
	}
	if e := change.May(len(st.Text), es...); e != api.OK {
		return api.State{}, e
	}
	w := weave.New(st)
	w.End(es...)
	w.Lay(es...)
	if w.Sessions() >= api.MaxSessions {
		return api.State{}, api.ErrDeep
	}
	w.Push(session(es, all))
	most := w.Sessions()
	if e := w.Mirror(); e != api.OK {
		return api.State{}, e
	}
	w.Clean()
	next := w.State()
	if len(next.Sessions) < most {
		return next, api.OK
	}
	return enter(next, next.Sessions[most-1].Cur)
}

// expand returns for each selection the edit that replaces it by the snippet's text, and the stops in that text.
func expand(st api.State, l []api.Snip, env []api.Pair) ([]api.Edit, [][]api.Stop, api.Errno) {
	r, e := rope.New(dice.New(), st.Text)
	if e != api.OK {
		return nil, nil, e
	}
	text := lines.Of(r)
	unit := lead.Unit(env...)
	var es []api.Edit
	var all [][]api.Stop
	for _, s := range st.Sels {
		at := sels.Span(s)
		here, e := vars.Place(text, s, env...)
		if e != api.OK {
			return nil, nil, e
		}
		line, _ := text.At(at.From)
		indent, _ := text.Indent(line)
		t, found, e := flat.Make(l, here, indent, unit)
		if e != api.OK {
			return nil, nil, e
		}
		es = append(es, api.Edit{Span: at, Text: t})
		all = append(all, found)
	}
	return es, all, api.OK
}

// session returns the session of snippets that edits, which are in order, have inserted.
func session(es []api.Edit, all [][]api.Stop) api.Session {
	var s api.Session
	grown := 0
	for k, e := range es {
		at := e.From + grown
		i := api.Inst{Span: api.Span{From: at, To: at + len(e.Text)}, Stops: all[k]}
		for j := range i.Stops {
			i.Stops[j].From += at
			i.Stops[j].To += at
		}
		s.Insts = append(s.Insts, i)
		grown += len(e.Text) - e.Len()
	}
	if numbers := stops.Numbers(s.Insts...); len(numbers) > 0 {
		s.Cur = numbers[0]
	}
	return s
}
