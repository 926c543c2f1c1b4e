package flat

import (
	"gimlet/api"
	"gimlet/vars"
)

// part is a kept part: a stop, or a text or value otherwise.
type part struct {
	isStop  bool
	n       int
	defines bool // whether it is the definition of its number
	kids    []*part
	opts    []string
	turned  bool
	form    api.Form
	raw     string // of a text: what is to be adapted
	text    string // what it is expanded to, or the value from which that is made
}

// keeper finds the kept parts of a tree.
type keeper struct {
	env   []api.Pair
	top   []*part
	stops []*part       // in order, a part before the parts in it
	defs  map[int]*part // by number
	names map[string]int
	most  int // the greatest number
}

// keep returns the kept parts of a tree. Variables that become stops have numbers below 0 at first, since their real
// ones depend on all the others.
func keep(l []api.Snip, env []api.Pair) *keeper {
	k := &keeper{env: env, defs: map[int]*part{}, names: map[string]int{}}
	k.top = k.list(l)
	defs := map[int]*part{}
	for _, p := range k.stops {
		if p.n < 0 {
			p.n = k.most - p.n
		}
		if p.defines {
			defs[p.n] = p
		}
	}
	k.defs = defs
	return k
}

func (k *keeper) list(l []api.Snip) []*part {
	var all []*part
	for _, s := range l {
		switch s.Kind {
		case api.SnText:
			all = append(all, &part{raw: s.Text})
		case api.SnVar:
			all = append(all, k.variable(s)...)
		default:
			k.most = max(k.most, s.N)
			all = append(all, k.stop(s))
		}
	}
	return all
}

func (k *keeper) stop(s api.Snip) *part {
	p := &part{isStop: true, n: s.N, turned: s.Turned, form: s.Form}
	k.stops = append(k.stops, p)
	if k.defs[s.N] == nil && (s.Has || s.Kind == api.SnChoice) {
		p.defines = true
		k.defs[s.N] = p
		p.opts = s.Opts
		p.kids = k.list(s.Kids)
	}
	return p
}

func (k *keeper) variable(s api.Snip) []*part {
	value, ok := vars.Get(s.Text, k.env...)
	switch {
	case ok, !s.Has && (s.Turned || vars.Known(s.Text)):
		return []*part{{text: value, turned: s.Turned, form: s.Form}}
	case s.Has:
		return k.list(s.Kids)
	}
	if k.names[s.Text] == 0 {
		k.names[s.Text] = len(k.names) + 1
	}
	name := []api.Snip{{Kind: api.SnText, Text: s.Text}}
	return []*part{k.stop(api.Snip{Kind: api.SnStop, N: -k.names[s.Text], Has: true, Kids: name})}
}

// loops reports whether a definition contains its own number.
func (k *keeper) loops() bool {
	open, done := map[int]int{}, map[int]int{}
	var visit func(n int) bool
	visit = func(n int) bool {
		if k.defs[n] == nil || done[n] > 0 {
			return false
		}
		if open[n] > 0 {
			return true
		}
		open[n]++
		for _, p := range k.defs[n].kids {
			if p.isStop && visit(p.n) {
				return true
			}
		}
		done[n]++
		return false
	}
	for _, p := range k.stops {
		if visit(p.n) {
			return true
		}
	}
	return false
}
