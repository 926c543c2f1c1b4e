package weave

import (
	"gimlet/api"
	"gimlet/change"
	"gimlet/deep"
	"gimlet/span"
)

// inst is an instance. Its stops are all to be moved by lag; so an edit far before it costs little.
type inst struct {
	api.Inst
	lag  int
	held []bool // by stop: whether it held what was typed
	ids  []int  // by stop: which one it was at first
}

func newInst(i api.Inst) *inst {
	all := &inst{Inst: deep.Inst(i), held: make([]bool, len(i.Stops)), ids: make([]int, len(i.Stops))}
	for k := range all.ids {
		all.ids[k] = k
	}
	return all
}

func (i *inst) settle() {
	if i.lag == 0 {
		return
	}
	for k := range i.Stops {
		i.Stops[k].From += i.lag
		i.Stops[k].To += i.lag
	}
	i.lag = 0
}

// pass moves an instance that does not hold the edit, and reports whether it remains. Stays tells to which side an
// empty instance goes that lies where the edit begins.
func (i *inst) pass(e api.Edit, stays bool) bool {
	if i.From < e.To && i.To > e.From {
		return false
	}
	if goesLeft(i.Span, e, stays) {
		return true
	}
	if i.From >= e.To {
		by := len(e.Text) - e.Len()
		i.From += by
		i.To += by
		i.lag += by
		return true
	}
	i.settle()
	i.Span = moved(i.Span, true, e)
	for k := range i.Stops {
		i.Stops[k].Span = moved(i.Stops[k].Span, true, e)
	}
	return true
}

// hold moves the stops of an instance of which one owns the edit.
func (i *inst) hold(owner int, e api.Edit, why reason) {
	i.settle()
	fates := i.fates(e, i.holders(owner, e, why))
	by := len(e.Text) - e.Len()
	i.To += by
	places := make([]int, len(i.Stops)) // by old index: the new one
	kept := 0
	for k := range i.Stops {
		s := &i.Stops[k]
		switch fates[k] {
		case removed:
			continue
		case holds:
			s.To += by
			i.held[k] = i.held[k] || why == typed
		case left:
			s.Span = moved(s.Span, false, e)
		case right:
			s.Span = moved(s.Span, true, e)
		}
		if s.Up >= 0 && s.Up < k {
			s.Up = places[s.Up]
		}
		if places[k] = kept; kept < k {
			i.Stops[kept], i.held[kept], i.ids[kept] = *s, i.held[k], i.ids[k]
		}
		kept++
	}
	clear(i.Stops[kept:])
	i.Stops, i.held, i.ids = i.Stops[:kept], i.held[:kept], i.ids[:kept]
}

// fate is what becomes of a stop.
type fate int

const (
	holds fate = iota
	removed
	left
	right
)

func (i *inst) fates(e api.Edit, holding []bool) []fate {
	last := 0
	for k := range holding {
		if holding[k] {
			last = k
		}
	}
	all := make([]fate, len(i.Stops))
	for k := range i.Stops {
		s := &i.Stops[k]
		up := holds // the instance does
		if s.Up >= 0 && s.Up < k {
			up = all[s.Up]
		}
		switch {
		case holding[k]:
			all[k] = holds
		case up == removed || s.From < e.To && s.To > e.From:
			all[k] = removed
		case up != holds:
			all[k] = up
		case goesLeft(s.Span, e, k < last):
			all[k] = left
		default:
			all[k] = right
		}
	}
	return all
}

// holders reports for each stop whether it holds the edit.
func (i *inst) holders(owner int, e api.Edit, why reason) []bool {
	holding := make([]bool, len(i.Stops))
	for k := owner; k >= 0; {
		holding[k] = true
		up := i.Stops[k].Up
		if up >= k {
			break
		}
		k = up
	}
	if why == copied {
		return holding
	}
	inside := make([]bool, len(i.Stops)) // whether it stands in the owner
	for k := owner + 1; k < len(i.Stops); k++ {
		s := &i.Stops[k]
		if s.Up < owner || s.Up >= k {
			continue
		}
		inside[k] = s.Up == owner || inside[s.Up]
		holding[k] = inside[k] && holding[s.Up] && surrounds(s.Span, e)
	}
	return holding
}

// surrounds reports whether an edit lies in a stop so that the stop, and not only what is around it, changes.
func surrounds(s api.Span, e api.Edit) bool {
	return s.From < e.From && s.To > e.To || e.Len() != 0 && span.Within(e.Span, s)
}

func goesLeft(s api.Span, e api.Edit, stays bool) bool {
	return s.To < e.From || s.To == e.From && (s.From != s.To || stays)
}

func moved(s api.Span, right bool, e api.Edit) api.Span {
	return api.Span{From: change.Move(s.From, right, e), To: change.Move(s.To, right, e)}
}
