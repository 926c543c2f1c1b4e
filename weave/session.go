package weave

import (
	"gimlet/api"
	"gimlet/deep"
	"gimlet/span"
)

// owner is the stop that owns an edit: its instance's index and its own.
type owner struct {
	inst int
	stop int
}

func nobody() owner { return owner{inst: -1, stop: -1} }

// reason is why an edit is laid in a session.
type reason int

const (
	passing reason = iota
	typed          // the stops that hold it take note of that
	copied         // it replaces all that its owner has, so that no stop in the owner holds it
)

type session struct {
	cur   int
	insts []*inst
}

func newSession(s api.Session) *session {
	all := &session{cur: s.Cur}
	for _, i := range s.Insts {
		all.insts = append(all.insts, newInst(i))
	}
	return all
}

func (s *session) told() api.Session {
	all := api.Session{Cur: s.cur}
	for _, i := range s.insts {
		i.settle()
		all.Insts = append(all.Insts, deep.Inst(i.Inst))
	}
	return all
}

// owner returns the first stop of the current number in which a span lies.
func (s *session) owner(at api.Span) owner {
	for k, i := range s.insts {
		if !span.Within(at, i.Span) {
			continue
		}
		i.settle()
		for j := range i.Stops {
			if x := &i.Stops[j]; x.N == s.cur && !x.Turned && span.Within(at, x.Span) {
				return owner{inst: k, stop: j}
			}
		}
	}
	return nobody()
}

func (s *session) stays(es []api.Edit) bool {
	for _, e := range es {
		if s.owner(e.Span) == nobody() {
			return false
		}
	}
	return true
}

// spans returns those of the stops of the current number.
func (s *session) spans() []api.Span {
	var all []api.Span
	for _, i := range s.insts {
		i.settle()
		for j := range i.Stops {
			if x := &i.Stops[j]; x.N == s.cur && !x.Turned {
				all = append(all, x.Span)
			}
		}
	}
	return all
}

// shift moves all instances as an edit asks.
func (s *session) shift(o owner, e api.Edit, why reason) {
	kept := s.insts[:0]
	for k, i := range s.insts {
		if k == o.inst {
			i.hold(o.stop, e, why)
			kept = append(kept, i)
		} else if i.pass(e, o.inst < 0 || k < o.inst) {
			kept = append(kept, i)
		}
	}
	clear(s.insts[len(kept):])
	s.insts = kept
}

// Shift returns the session after an edit that a stop owns, if there is this stop.
func Shift(s api.Session, inst int, stop int, e api.Edit) api.Session {
	o := nobody()
	if inst >= 0 && inst < len(s.Insts) && stop >= 0 && stop < len(s.Insts[inst].Stops) {
		o = owner{inst: inst, stop: stop}
	}
	all := newSession(s)
	all.shift(o, e, passing)
	return all.told()
}
