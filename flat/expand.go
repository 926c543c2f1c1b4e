package flat

import (
	"strings"

	"gimlet/api"
	"gimlet/xform"
)

// expander computes the texts of kept parts.
type expander struct {
	*keeper
	lead  string
	unit  string
	texts map[int]*text // by number, those that have been needed
}

type text struct{ s string }

// join returns the texts of parts, one after another.
func (x *expander) join(ps []*part) (string, api.Errno) {
	var b strings.Builder
	for _, p := range ps {
		if e := x.expand(p); e != api.OK {
			return "", e
		}
		b.WriteString(p.text)
		if b.Len() > api.MaxDoc {
			return "", api.ErrSize
		}
	}
	return b.String(), api.OK
}

// expand computes the text of a part.
func (x *expander) expand(p *part) api.Errno {
	if p.raw != "" {
		if x.adaptsTooLong(p.raw) {
			return api.ErrSize
		}
		p.text = x.adapt(p.raw)
	}
	if p.isStop {
		s, e := x.number(p.n)
		if e != api.OK {
			return e
		}
		p.text = s
	}
	if !p.turned {
		return api.OK
	}
	s, _, e := xform.Apply(p.form, p.text, api.MaxFuel)
	p.text = s
	return e
}

// number returns the text of a number.
func (x *expander) number(n int) (string, api.Errno) {
	if t := x.texts[n]; t != nil {
		return t.s, api.OK
	}
	s, e := x.define(x.defs[n])
	if e != api.OK {
		return "", e
	}
	x.texts[n] = &text{s}
	return s, api.OK
}

// define returns the text of a definition.
func (x *expander) define(p *part) (string, api.Errno) {
	if p == nil {
		return "", api.OK
	}
	if len(p.opts) == 0 {
		return x.join(p.kids)
	}
	if x.adaptsTooLong(p.opts[0]) {
		return "", api.ErrSize
	}
	return x.adapt(p.opts[0]), api.OK
}

// adaptsTooLong reports whether an adapted text would be longer than any text may be; so it needs not be made.
func (x *expander) adaptsTooLong(s string) bool {
	size, begins := len(s), false
	for i := range len(s) {
		if s[i] == '\t' && begins {
			size += max(len(x.unit), 1) - 1
			continue
		}
		begins = s[i] == '\n'
		if begins {
			size += len(x.lead)
		}
	}
	return size > api.MaxDoc
}
