// Package deep copies and compares the types of package api that hold lists. A copy shares no memory with its original;
// a nil list and an empty one are the same.
package deep

import (
	"slices"

	"gimlet/api"
)

// Each returns the list of what a function makes of each element, or nil for an empty list.
func Each[T any](l []T, f func(T) T) []T {
	if len(l) == 0 {
		return nil
	}
	all := make([]T, len(l))
	for i, x := range l {
		all[i] = f(x)
	}
	return all
}

// List returns a copy of a list whose elements hold no lists.
func List[T any](l []T) []T {
	return Each(l, func(x T) T { return x })
}

// Rx returns a copy of a regular expression.
func Rx(x api.Rx) api.Rx {
	x.Rows = List(x.Rows)
	x.Kids = Each(x.Kids, Rx)
	return x
}

// Form returns a copy of a transform.
func Form(f api.Form) api.Form {
	f.Rx = Rx(f.Rx)
	f.Fmts = List(f.Fmts)
	return f
}

// Snip returns a copy of a snippet's part.
func Snip(s api.Snip) api.Snip {
	s.Form = Form(s.Form)
	s.Opts = List(s.Opts)
	s.Kids = Each(s.Kids, Snip)
	return s
}

// Stop returns a copy of a stop.
func Stop(s api.Stop) api.Stop {
	s.Form = Form(s.Form)
	s.Opts = List(s.Opts)
	return s
}

// Inst returns a copy of an instance.
func Inst(i api.Inst) api.Inst {
	i.Stops = Each(i.Stops, Stop)
	return i
}

// Session returns a copy of a session.
func Session(s api.Session) api.Session {
	s.Insts = Each(s.Insts, Inst)
	return s
}

// State returns a copy of a state.
func State(st api.State) api.State {
	st.Sels = List(st.Sels)
	st.Sessions = Each(st.Sessions, Session)
	return st
}

// SameRx reports whether two regular expressions are equal.
func SameRx(a api.Rx, b api.Rx) bool {
	return a.Kind == b.Kind && a.Char == b.Char && a.Not == b.Not && a.Min == b.Min && a.Max == b.Max &&
		a.Lazy == b.Lazy && slices.Equal(a.Rows, b.Rows) && slices.EqualFunc(a.Kids, b.Kids, SameRx)
}

// SameForm reports whether two transforms are equal.
func SameForm(a api.Form, b api.Form) bool {
	return a.Fold == b.Fold && a.All == b.All && slices.Equal(a.Fmts, b.Fmts) && SameRx(a.Rx, b.Rx)
}

// SameSnip reports whether two parts of a snippet are equal.
func SameSnip(a api.Snip, b api.Snip) bool {
	return a.Kind == b.Kind && a.Text == b.Text && a.N == b.N && a.Has == b.Has && a.Turned == b.Turned &&
		slices.Equal(a.Opts, b.Opts) && SameForm(a.Form, b.Form) && slices.EqualFunc(a.Kids, b.Kids, SameSnip)
}

// SameStop reports whether two stops are equal.
func SameStop(a api.Stop, b api.Stop) bool {
	return a.Span == b.Span && a.N == b.N && a.Up == b.Up && a.First == b.First && a.Turned == b.Turned &&
		slices.Equal(a.Opts, b.Opts) && SameForm(a.Form, b.Form)
}

// SameInst reports whether two instances are equal.
func SameInst(a api.Inst, b api.Inst) bool {
	return a.Span == b.Span && slices.EqualFunc(a.Stops, b.Stops, SameStop)
}

// SameSession reports whether two sessions are equal.
func SameSession(a api.Session, b api.Session) bool {
	return a.Cur == b.Cur && slices.EqualFunc(a.Insts, b.Insts, SameInst)
}

// SameState reports whether two states are equal.
func SameState(a api.State, b api.State) bool {
	return a.Text == b.Text && slices.Equal(a.Sels, b.Sels) && slices.EqualFunc(a.Sessions, b.Sessions, SameSession)
}
