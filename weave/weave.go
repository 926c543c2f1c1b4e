// Package weave lays edits in a text with snippet sessions; follow and crew are made of its steps.
package weave

import (
	"slices"

	"gimlet/api"
	"gimlet/change"
	"gimlet/deep"
	"gimlet/sels"
	"gimlet/span"
)

// Work is a state that is being changed.
type Work struct {
	text     []byte
	sels     []api.Sel
	sessions []*session
}

// New begins the work on a valid state, which stays as it is.
func New(st api.State) *Work {
	w := &Work{text: []byte(st.Text), sels: deep.List(st.Sels)}
	for _, s := range st.Sessions {
		w.Push(s)
	}
	return w
}

// Push makes a session the innermost one.
func (w *Work) Push(s api.Session) {
	w.sessions = append(w.sessions, newSession(s))
}

// Sessions returns how many there are.
func (w *Work) Sessions() int { return len(w.sessions) }

// State returns the state that has been reached.
func (w *Work) State() api.State {
	st := api.State{Text: string(w.text), Sels: deep.List(w.sels)}
	for _, s := range w.sessions {
		st.Sessions = append(st.Sessions, s.told())
	}
	return st
}

// End removes the innermost sessions in which an edit has no owner.
func (w *Work) End(es ...api.Edit) {
	for k := len(w.sessions) - 1; k >= 0 && !w.sessions[k].stays(es); k-- {
		w.sessions = w.sessions[:k]
	}
}

// Lay lays simultaneous edits.
func (w *Work) Lay(es ...api.Edit) {
	k := len(w.sessions) - 1
	for _, e := range slices.Backward(change.Sort(es...)) {
		o := nobody()
		if k >= 0 {
			o = w.sessions[k].owner(e.Span)
		}
		w.lay(e, k, o, typed)
	}
}

// lay lays an edit that belongs to session k, in which o owns it.
func (w *Work) lay(e api.Edit, k int, o owner, why reason) {
	owners := w.owners(k, o)
	for j, s := range w.sessions {
		if j != k && why == copied {
			s.shift(owners[j], e, passing)
		} else {
			s.shift(owners[j], e, why)
		}
	}
	w.text = slices.Replace(w.text, e.From, e.To, []byte(e.Text)...)
	w.sels = sels.Move(w.sels, e)
}

// owners returns who owns an edit in each session, if o does in session k: around the instance of an owner, the next
// outer session's owner is a stop of its current number.
func (w *Work) owners(k int, o owner) []owner {
	all := make([]owner, len(w.sessions))
	for j := range all {
		all[j] = nobody()
	}
	if o == nobody() {
		return all
	}
	all[k] = o
	inner := w.sessions[k].insts[o.inst].Span
	for j := k - 1; j >= 0; j-- {
		s := w.sessions[j]
		if all[j] = s.owner(inner); all[j] != nobody() {
			inner = s.insts[all[j].inst].Span
		}
	}
	return all
}

// Clean removes the instances that no longer lie in a stop of the next outer session's current number, and the sessions
// that have lost all instances, or all stops of their own number, with those in them.
func (w *Work) Clean() {
	for k, s := range w.sessions {
		if k > 0 {
			around := w.sessions[k-1].spans()
			s.insts = slices.DeleteFunc(s.insts, func(i *inst) bool {
				return !slices.ContainsFunc(around, func(a api.Span) bool { return span.Within(i.Span, a) })
			})
		}
		if len(s.spans()) == 0 {
			w.sessions = w.sessions[:k]
			return
		}
	}
}
