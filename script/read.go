package script

import (
	"math"
	"strings"

	"gimlet/api"
	"gimlet/octet"
	"gimlet/spot"
)

// mostDigits is how many digits a number has at most.
const mostDigits = 18

// Read returns the numbers and the operations of a script.
func Read(b []byte) ([]uint32, []api.Op, int, api.Errno) {
	if len(b) > api.MaxScript {
		return nil, nil, 0, api.ErrSize
	}
	p := parser{Spot: spot.Spot{Text: string(b)}}
	nums, ok := p.dice()
	if !ok {
		return nil, nil, 1, api.ErrForm
	}
	var os []api.Op
	for line := 2; !p.Done(); line++ {
		o, ok := p.op()
		if !ok {
			return nil, nil, line, api.ErrForm
		}
		if len(os) == api.MaxOps {
			return nil, nil, line, api.ErrFull
		}
		os = append(os, o)
	}
	return nums, os, 0, api.OK
}

type parser struct{ spot.Spot }

// dice reads the first line.
func (p *parser) dice() ([]uint32, bool) {
	if !p.TakeAll("dice") {
		return nil, false
	}
	var nums []uint32
	for p.Take(' ') {
		n, ok := p.number()
		if !ok || n < 0 || n > math.MaxUint32 {
			return nil, false
		}
		nums = append(nums, uint32(n))
	}
	return nums, p.Take('\n')
}

// op reads any other line.
func (p *parser) op() (api.Op, bool) {
	o := api.Op{Kind: p.kind()}
	ok := true
	switch o.Kind {
	case 0:
		ok = false
	case api.OpSet:
		if o.Name, ok = p.textPart(); ok {
			o.Text, ok = p.textPart()
		}
	case api.OpType, api.OpInsert:
		o.Text, ok = p.textPart()
	case api.OpErase, api.OpChoose:
		o.N, ok = p.numberPart()
	case api.OpMove:
		if o.N, ok = p.numberPart(); ok {
			o.Extend, ok = p.flagPart()
		}
	case api.OpEdit:
		o.Edits, ok = p.edits()
	case api.OpSelect:
		o.Sels, ok = p.sels()
	}
	if !ok || !p.Take('\n') {
		return api.Op{}, false
	}
	return o, true
}

// kind reads a keyword.
func (p *parser) kind() int {
	rest := p.Text[p.At:]
	end := strings.IndexAny(rest, " \n")
	if end < 0 {
		return 0
	}
	for kind := api.OpSet; kind <= api.OpRedo; kind++ {
		if keyword(kind) == rest[:end] {
			p.At += end
			return kind
		}
	}
	return 0
}

func (p *parser) edits() ([]api.Edit, bool) {
	var all []api.Edit
	for p.Has(' ') {
		from, to, ok := p.twoParts()
		if !ok {
			return nil, false
		}
		text, ok := p.textPart()
		if !ok {
			return nil, false
		}
		all = append(all, api.Edit{Span: api.Span{From: from, To: to}, Text: text})
	}
	return all, true
}

func (p *parser) sels() ([]api.Sel, bool) {
	var all []api.Sel
	for p.Has(' ') {
		anchor, head, ok := p.twoParts()
		if !ok {
			return nil, false
		}
		all = append(all, api.Sel{Anchor: anchor, Head: head})
	}
	return all, true
}

func (p *parser) twoParts() (int, int, bool) {
	a, ok := p.numberPart()
	if !ok {
		return 0, 0, false
	}
	b, ok := p.numberPart()
	return a, b, ok
}

func (p *parser) numberPart() (int, bool) {
	if !p.Take(' ') {
		return 0, false
	}
	return p.number()
}

func (p *parser) flagPart() (bool, bool) {
	if !p.Take(' ') {
		return false, false
	}
	if p.Take('1') {
		return true, true
	}
	return false, p.Take('0')
}

func (p *parser) textPart() (string, bool) {
	n, ok := p.numberPart()
	if !ok || n < 0 || !p.Take(':') || n > len(p.Text)-p.At {
		return "", false
	}
	p.At += n
	return p.Text[p.At-n : p.At], true
}

// number reads a number; it is one of those that Show writes.
func (p *parser) number() (int, bool) {
	minus := p.Take('-')
	if p.Take('0') {
		return 0, !minus && !p.hasDigit()
	}
	n, digits := 0, 0
	for p.hasDigit() && digits < mostDigits {
		n = n*10 + int(p.Text[p.At]-'0')
		digits++
		p.At++
	}
	if minus {
		n = -n
	}
	return n, digits > 0 && !p.hasDigit()
}

func (p *parser) hasDigit() bool {
	return !p.Done() && octet.Digit(p.Text[p.At])
}
