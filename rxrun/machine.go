package rxrun

import (
	"gimlet/api"
	"gimlet/char"
	"gimlet/rxset"
)

// outcome is how a step, or a whole run, ends.
type outcome int

const (
	going  outcome = iota // for a whole run: there is a match
	failed                // there is no way on from here
	dry                   // a unit of fuel was needed, and none was left
)

// node is a part of a tree that knows the numbers of the groups in it: from first up to last.
type node struct {
	api.Rx
	kids  []*node
	first int
	last  int
}

// task is something that remains to be done, followed by the rest of it. As the rest is never changed, an earlier
// choice can go back to it.
type task struct {
	what what
	x    *node
	n    int // how many kids or repetitions came before
	from int // the place at which the repetition or the group began
	rest *task
}

type what int

const (
	enter  what = iota // try x here
	kids               // match the kids of a sequence from n on
	others             // try the alternatives from n on
	again              // decide whether there is one more repetition
	begin              // begin one more repetition
	ended              // a repetition is over
	shut               // a group is over
)

// choice is what to go back to when there is no way on.
type choice struct {
	todo  *task
	at    int
	trail int
}

// old is what a part was before it was set.
type old struct {
	group int
	part  api.Span
}

// machine matches one tree against one text. Places are told by their index. It holds what remains to be done in a
// list instead of Go's stack, since fuel permits a way of many thousand steps.
type machine struct {
	s       string
	places  []int
	fold    bool
	fuel    int
	root    *node
	at      int
	todo    *task
	parts   []api.Span
	trail   []old
	choices []choice
}

func newMachine(x api.Rx, fold bool, s string, fuel int) *machine {
	groups := 0
	root := number(x, &groups)
	return &machine{
		s:      s,
		places: char.Places(s),
		fold:   fold,
		fuel:   min(max(fuel, 0), api.MaxFuel),
		root:   root,
		parts:  make([]api.Span, groups),
	}
}

// number counts the groups in the order of their opening parentheses.
func number(x api.Rx, groups *int) *node {
	n := &node{Rx: x, first: *groups}
	if x.Kind == api.RxGroup {
		*groups++
	}
	for _, k := range x.Kids {
		n.kids = append(n.kids, number(k, groups))
	}
	n.last = *groups
	return n
}

// run looks for the first way from a place on.
func (m *machine) run(at int) outcome {
	m.at, m.todo = at, &task{what: enter, x: m.root}
	m.trail, m.choices = m.trail[:0], m.choices[:0]
	for i := range m.parts {
		m.parts[i] = unset()
	}
	for m.todo != nil {
		t := m.todo
		m.todo = t.rest
		end := m.do(t)
		if end == dry || end == failed && !m.goBack() {
			return end
		}
	}
	return going
}

// goBack returns to the latest choice.
func (m *machine) goBack() bool {
	k := len(m.choices) - 1
	if k < 0 {
		return false
	}
	c := m.choices[k]
	m.choices = m.choices[:k]
	for i := len(m.trail) - 1; i >= c.trail; i-- {
		m.parts[m.trail[i].group] = m.trail[i].part
	}
	m.at, m.todo, m.trail = c.at, c.todo, m.trail[:c.trail]
	return true
}

// then puts a task before all that remains to be done.
func (m *machine) then(w what, x *node, n int, from int) {
	m.todo = &task{what: w, x: x, n: n, from: from, rest: m.todo}
}

// orElse makes a task, followed by what remains to be done, the latest choice.
func (m *machine) orElse(w what, x *node, n int) {
	todo := &task{what: w, x: x, n: n, rest: m.todo}
	m.choices = append(m.choices, choice{todo: todo, at: m.at, trail: len(m.trail)})
}

func (m *machine) do(t *task) outcome {
	switch t.what {
	case enter:
		return m.enter(t.x)
	case kids:
		if t.n+1 < len(t.x.kids) {
			m.then(kids, t.x, t.n+1, 0)
		}
		if t.n < len(t.x.kids) {
			m.then(enter, t.x.kids[t.n], 0, 0)
		}
	case others:
		if t.n+1 < len(t.x.kids) {
			m.orElse(others, t.x, t.n+1)
		}
		m.then(enter, t.x.kids[t.n], 0, 0)
	case again:
		m.decide(t.x, t.n)
	case begin:
		for g := t.x.first; g < t.x.last; g++ {
			m.set(g, unset())
		}
		m.then(ended, t.x, t.n, m.at)
		m.then(enter, t.x.kids[0], 0, 0)
	case ended:
		if t.n >= t.x.Min && m.at == t.from {
			return failed
		}
		m.then(again, t.x, t.n+1, 0)
	case shut:
		m.set(t.x.first, m.stretch(t.from, m.at))
	}
	return going
}

// decide goes on after n repetitions: with one more, without, or with the one and then the other.
func (m *machine) decide(x *node, n int) {
	switch {
	case n < x.Min:
		m.then(begin, x, n, 0)
	case n == x.Max:
	case x.Lazy:
		m.orElse(begin, x, n)
	default:
		m.choices = append(m.choices, choice{todo: m.todo, at: m.at, trail: len(m.trail)})
		m.then(begin, x, n, 0)
	}
}

// enter tries a part here.
func (m *machine) enter(x *node) outcome {
	switch x.Kind {
	case api.RxSeq:
		m.then(kids, x, 0, 0)
		return going
	case api.RxAlt:
		m.then(others, x, 0, 0)
		return going
	case api.RxRepeat:
		m.then(again, x, 0, 0)
		return going
	}
	if m.fuel == 0 {
		return dry
	}
	m.fuel--
	switch x.Kind {
	case api.RxGroup:
		m.then(shut, x, 0, m.at)
		m.then(enter, x.kids[0], 0, 0)
		return going
	case api.RxBare:
		m.then(enter, x.kids[0], 0, 0)
		return going
	case api.RxFirst:
		return when(m.at == 0)
	case api.RxLast:
		return when(m.at == len(m.places)-1)
	case api.RxEdge:
		return when(m.onEdge())
	case api.RxInner:
		return when(!m.onEdge())
	}
	if m.at == len(m.places)-1 || !m.accepts(x, m.char(m.at)) {
		return failed
	}
	m.at++
	return going
}

// accepts reports whether a part that consumes a character consumes this one.
func (m *machine) accepts(x *node, c string) bool {
	switch x.Kind {
	case api.RxChar:
		return c == x.Char || m.fold && len(c) == len(x.Char) && char.Fold(c) == char.Fold(x.Char)
	case api.RxAny:
		return c != "\n"
	}
	return rxset.Has(x.Rows, x.Not, m.fold, c)
}

// set sets a part; what it was is kept as long as there is a choice to go back to.
func (m *machine) set(group int, part api.Span) {
	if len(m.choices) > 0 && m.parts[group] != part {
		m.trail = append(m.trail, old{group: group, part: m.parts[group]})
	}
	m.parts[group] = part
}

// onEdge reports whether just one of the characters on both sides is a word character.
func (m *machine) onEdge() bool {
	before := m.at > 0 && char.Word(m.char(m.at-1))
	behind := m.at < len(m.places)-1 && char.Word(m.char(m.at))
	return before != behind
}

// char returns the character that begins at a place.
func (m *machine) char(i int) string {
	return m.s[m.places[i]:m.places[i+1]]
}

func (m *machine) stretch(from int, to int) api.Span {
	return api.Span{From: m.places[from], To: m.places[to]}
}

func unset() api.Span { return api.Span{From: -1, To: -1} }

func when(ok bool) outcome {
	if ok {
		return going
	}
	return failed
}
