package follow

import (
	"math/rand"
	"strconv"

	"gimlet/api"
	"gimlet/change"
	"gimlet/deep"
	"gimlet/sels"
	"gimlet/span"
	"gimlet/stops"
	"gimlet/xform"
)

// The model does what the chapter says, rule by rule, on lists that are copied each time. The stops are told apart by
// their first option.

const (
	holds = iota
	removed
	left
	right
)

// standsIn reports whether stop k of an instance stands in stop j.
func standsIn(i api.Inst, k, j int) bool {
	for up := i.Stops[k].Up; up >= 0; up = i.Stops[up].Up {
		if up == j {
			return true
		}
	}
	return false
}

func modelHolds(s api.Session, oi, oj int, e api.Edit, alone bool) map[[2]int]bool {
	all := map[[2]int]bool{}
	if oi < 0 {
		return all
	}
	i := s.Insts[oi]
	all[[2]int{oi, -1}], all[[2]int{oi, oj}] = true, true
	for k := range i.Stops {
		if standsIn(i, oj, k) {
			all[[2]int{oi, k}] = true
		}
	}
	for k, x := range i.Stops {
		if alone || !standsIn(i, k, oj) || !all[[2]int{oi, x.Up}] {
			continue
		}
		if x.From < e.From && x.To > e.To || e.From != e.To && x.From <= e.From && x.To >= e.To {
			all[[2]int{oi, k}] = true
		}
	}
	return all
}

func modelShift(s api.Session, oi, oj int, e api.Edit, alone bool, note map[string]bool) api.Session {
	s = deep.Session(s)
	holding := modelHolds(s, oi, oj, e, alone)
	last := [2]int{-1, -1}
	for at := range holding {
		if at[0] > last[0] || at[0] == last[0] && at[1] > last[1] {
			last = at
		}
	}
	fates := map[[2]int]int{}
	decide := func(at, up [2]int, x api.Span, stands bool) int {
		switch {
		case holding[at]:
			return holds
		case stands && fates[up] == removed, x.From < e.To && x.To > e.From:
			return removed
		case stands && fates[up] != holds:
			return fates[up]
		case x.To < e.From:
			return left
		case x.To == e.From && (x.From != x.To || len(holding) == 0 || at[0] < last[0] || at[0] == last[0] && at[1] < last[1]):
			return left
		}
		return right
	}
	apply := func(x api.Span, fate int) api.Span {
		if fate == holds {
			return api.Span{From: x.From, To: x.To + len(e.Text) - (e.To - e.From)}
		}
		return api.Span{From: change.Move(x.From, fate == right, e), To: change.Move(x.To, fate == right, e)}
	}
	out := api.Session{Cur: s.Cur}
	for k, i := range s.Insts {
		fate := decide([2]int{k, -1}, [2]int{}, i.Span, false)
		fates[[2]int{k, -1}] = fate
		next := api.Inst{Span: apply(i.Span, fate)}
		places := map[int]int{-1: -1}
		for j, x := range i.Stops {
			f := decide([2]int{k, j}, [2]int{k, x.Up}, x.Span, true)
			fates[[2]int{k, j}] = f
			if f == removed {
				continue
			}
			if f == holds && note != nil {
				note[x.Opts[0]] = true
			}
			x.Span, x.Up = apply(x.Span, f), places[x.Up]
			places[j] = len(next.Stops)
			next.Stops = append(next.Stops, x)
		}
		if fate != removed {
			out.Insts = append(out.Insts, next)
		}
	}
	return out
}

// modelLay lays an edit that stop oj of instance oi owns in session k.
func modelLay(st api.State, k, oi, oj int, e api.Edit, alone bool, note map[string]bool) api.State {
	owners := make([][2]int, len(st.Sessions))
	for j := range owners {
		owners[j] = [2]int{-1, -1}
	}
	if oi >= 0 {
		owners[k] = [2]int{oi, oj}
		inner := st.Sessions[k].Insts[oi].Span
		for j := k - 1; j >= 0; j-- {
			owners[j][0], owners[j][1] = Owner(st.Sessions[j], inner)
			if owners[j][0] >= 0 {
				inner = st.Sessions[j].Insts[owners[j][0]].Span
			}
		}
	}
	for j := range st.Sessions {
		st.Sessions[j] = modelShift(st.Sessions[j], owners[j][0], owners[j][1], e, alone && j == k, note)
	}
	st.Text = st.Text[:e.From] + e.Text + st.Text[e.To:]
	st.Sels = sels.Move(st.Sels, e)
	return st
}

func modelDo(st api.State, es ...api.Edit) (api.State, api.Errno) {
	if !May(st) {
		return api.State{}, api.ErrArg
	}
	if e := change.May(len(st.Text), es...); e != api.OK {
		return api.State{}, e
	}
	st = deep.State(st)
	for len(st.Sessions) > 0 && !Stays(st.Sessions[len(st.Sessions)-1], es...) {
		st.Sessions = st.Sessions[:len(st.Sessions)-1]
	}
	held := map[string]bool{}
	all := change.Sort(es...)
	for n := len(all) - 1; n >= 0; n-- {
		k, oi, oj := len(st.Sessions)-1, -1, -1
		if k >= 0 {
			oi, oj = Owner(st.Sessions[k], all[n].Span)
		}
		st = modelLay(st, k, oi, oj, all[n], false, held)
	}
	st, e := modelMirror(st, held)
	if e != api.OK {
		return api.State{}, e
	}
	return modelClean(st), api.OK
}

func modelMirror(st api.State, held map[string]bool) (api.State, api.Errno) {
	for k := len(st.Sessions) - 1; k >= 0; k-- {
		for j := 0; j < len(st.Sessions[k].Insts); j++ {
			for _, n := range stops.Order(st.Sessions[k].Insts[j]) {
				var heldHere []bool
				for _, x := range st.Sessions[k].Insts[j].Stops {
					heldHere = append(heldHere, held[x.Opts[0]])
				}
				source := stops.Source(st.Sessions[k].Insts[j], n, heldHere)
				if source < 0 {
					continue
				}
				from := st.Sessions[k].Insts[j].Stops[source]
				text := st.Text[from.From:from.To]
				for q := 0; q < len(st.Sessions[k].Insts[j].Stops); q++ {
					x := st.Sessions[k].Insts[j].Stops[q]
					if x.N != n || x.Opts[0] == from.Opts[0] {
						continue
					}
					want := text
					if x.Turned {
						var e api.Errno
						if want, _, e = xform.Apply(x.Form, text, api.MaxFuel); e != api.OK {
							return st, e
						}
					}
					if st.Text[x.From:x.To] == want {
						continue
					}
					st = modelLay(st, k, j, q, api.Edit{Span: x.Span, Text: want}, true, nil)
					if len(st.Text) > api.MaxDoc {
						return st, api.ErrSize
					}
				}
			}
		}
	}
	return st, api.OK
}

func modelClean(st api.State) api.State {
	for k := range st.Sessions {
		s := &st.Sessions[k]
		var kept []api.Inst
		for _, i := range s.Insts {
			lies := k == 0
			if k > 0 {
				for _, a := range stops.Spans(st.Sessions[k-1].Cur, st.Sessions[k-1].Insts...) {
					lies = lies || span.Within(i.Span, a)
				}
			}
			if lies {
				kept = append(kept, i)
			}
		}
		s.Insts = kept
		if len(stops.Spans(s.Cur, s.Insts...)) == 0 {
			st.Sessions = st.Sessions[:k]
			break
		}
	}
	return st
}

// randomState returns a valid state; its stops need not have the texts that mirrors have.
func randomState(rnd *rand.Rand) api.State {
	n := rnd.Intn(14)
	st := api.State{}
	for range n {
		st.Text += string(rune('a' + rnd.Intn(3)))
	}
	for len(st.Sels) == 0 {
		var l []api.Sel
		for range 1 + rnd.Intn(3) {
			l = append(l, api.Sel{Anchor: rnd.Intn(n + 1), Head: rnd.Intn(n + 1)})
		}
		st.Sels, _ = sels.Norm(n, l...)
	}
	id := 0
	around := []api.Span{{To: n}}
	for range rnd.Intn(4) {
		s := api.Session{Cur: rnd.Intn(3)}
		for _, a := range around {
			for _, part := range divide(rnd, a, 2) {
				i := api.Inst{Span: part}
				randomStops(rnd, &i, -1, part, 3, &id)
				s.Insts = append(s.Insts, i)
			}
		}
		next := append(st.Sessions[:len(st.Sessions):len(st.Sessions)], s)
		if trial := (api.State{Text: st.Text, Sels: st.Sels, Sessions: next}); len(s.Insts) == 0 || !May(trial) {
			break
		}
		st.Sessions = next
		around = stops.Spans(s.Cur, s.Insts...)
	}
	return st
}

// divide returns some spans in another one, in order.
func divide(rnd *rand.Rand, a api.Span, most int) []api.Span {
	var all []api.Span
	at := a.From
	for range rnd.Intn(most + 1) {
		from := at + rnd.Intn(min(a.To-at, 2)+1)
		to := from + rnd.Intn(a.To-from+1)
		all = append(all, api.Span{From: from, To: to})
		at = to
	}
	return all
}

func randomStops(rnd *rand.Rand, i *api.Inst, up int, a api.Span, depth int, id *int) {
	if depth == 0 {
		return
	}
	forms := []string{"/a/b/g}", "/(.)(.*)/$2$1/}", "/^/x/}", "/b//g}"}
	for _, part := range divide(rnd, a, 3) {
		*id++
		x := api.Stop{Span: part, N: rnd.Intn(3), Up: up, First: rnd.Intn(3) == 0, Opts: []string{strconv.Itoa(*id)}}
		if rnd.Intn(6) == 0 {
			x.Turned = true
			x.Form, _, _ = xform.Reads(forms[rnd.Intn(4)], 0)
		}
		i.Stops = append(i.Stops, x)
		randomStops(rnd, i, len(i.Stops)-1, part, depth-1, id)
	}
}
