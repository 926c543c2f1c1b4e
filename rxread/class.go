package rxread

import (
	"gimlet/api"
	"gimlet/rxset"
)

// class parses what follows the opening bracket of a class.
func (p *parser) class() (api.Rx, api.Errno) {
	not := p.take("^")
	var rows []api.Row
	for !p.take("]") {
		more, ok := p.rows()
		if !ok {
			return api.Rx{}, api.ErrForm
		}
		rows = append(rows, more...)
	}
	return api.Rx{Kind: api.RxSet, Not: not, Rows: rxset.Union(rows...)}, api.OK
}

// rows parses an item of a class, or a range.
func (p *parser) rows() ([]api.Row, bool) {
	rows, from, ok := p.item()
	if !ok || from == "" {
		return rows, ok
	}
	to := from
	if p.beginsRange() {
		p.next()
		_, to, ok = p.item()
	}
	return []api.Row{{From: from, To: to}}, ok && to >= from
}

// item parses an item: the rows of a named class, or one character.
func (p *parser) item() ([]api.Row, string, bool) {
	c := p.next()
	if c != "\\" {
		return nil, c, c != ""
	}
	c = p.next()
	if c == "d" || c == "w" || c == "s" {
		rows, _ := rxset.Named(c[0])
		return rows, "", true
	}
	c, ok := escaped(c)
	return nil, c, ok
}

// beginsRange reports whether a minus comes that isn't the last item of the class.
func (p *parser) beginsRange() bool {
	ahead := p.position
	if !ahead.take("-") {
		return false
	}
	return !ahead.done() && ahead.peek() != "]"
}
