package weave

import (
	"gimlet/api"
	"gimlet/stops"
	"gimlet/xform"
)

// Mirror gives all stops of a number the text that their source has, or its transform.
func (w *Work) Mirror() api.Errno {
	for k := len(w.sessions) - 1; k >= 0; k-- {
		for j := 0; j < len(w.sessions[k].insts); j++ {
			if e := w.mirror(k, j); e != api.OK {
				return e
			}
		}
	}
	return api.OK
}

func (w *Work) mirror(k int, j int) api.Errno {
	i := w.sessions[k].insts[j]
	i.settle()
	for _, n := range stops.Order(i.Inst) {
		source := stops.Source(i.Inst, n, i.held)
		if source < 0 {
			continue
		}
		if e := w.copyFrom(k, j, source); e != api.OK {
			return e
		}
	}
	return api.OK
}

// copyFrom lays an edit for each stop of a source's number that does not have the text that it should have.
func (w *Work) copyFrom(k int, j int, source int) api.Errno {
	i := w.sessions[k].insts[j]
	id, from := i.ids[source], i.Stops[source]
	text := string(w.text[from.From:from.To])
	for q := 0; q < len(i.Stops); q++ { // a copy may remove stops behind q
		s := i.Stops[q]
		if s.N != from.N || i.ids[q] == id {
			continue
		}
		want := text
		if s.Turned {
			t, _, e := xform.Apply(s.Form, text, api.MaxFuel)
			if e != api.OK {
				return e
			}
			want = t
		}
		if string(w.text[s.From:s.To]) == want {
			continue
		}
		w.lay(api.Edit{Span: s.Span, Text: want}, k, owner{inst: j, stop: q}, copied)
		if len(w.text) > api.MaxDoc {
			return api.ErrSize
		}
	}
	return api.OK
}
