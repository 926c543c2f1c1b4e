package script

import (
	"strconv"

	"gimlet/api"
)

// tooGreat is the first number that has too many digits.
const tooGreat = 1000000000000000000

// Show returns the script for numbers and operations.
func Show(nums []uint32, os ...api.Op) ([]byte, api.Errno) {
	for _, o := range os {
		if !may(o) {
			return nil, api.ErrArg
		}
	}
	if len(os) > api.MaxOps {
		return nil, api.ErrFull
	}
	b := []byte("dice")
	for _, n := range nums {
		if b = number(b, int(n)); len(b) > api.MaxScript {
			return nil, api.ErrSize
		}
	}
	b = append(b, '\n')
	for _, o := range os {
		if b = append(show(b, o), '\n'); len(b) > api.MaxScript {
			return nil, api.ErrSize
		}
	}
	if len(b) > api.MaxScript {
		return nil, api.ErrSize
	}
	return b, api.OK
}

// may reports whether there is a line for an operation.
func may(o api.Op) bool {
	if keyword(o.Kind) == "" || !fits(o.N) {
		return false
	}
	for _, e := range o.Edits {
		if !fits(e.From) || !fits(e.To) {
			return false
		}
	}
	for _, s := range o.Sels {
		if !fits(s.Anchor) || !fits(s.Head) {
			return false
		}
	}
	return onlyItsFields(o)
}

func fits(n int) bool { return -tooGreat < n && n < tooGreat }

// onlyItsFields reports whether the fields that the line of an operation does not contain are zero.
func onlyItsFields(o api.Op) bool {
	switch o.Kind {
	case api.OpSet:
		o.Name, o.Text = "", ""
	case api.OpType, api.OpInsert:
		o.Text = ""
	case api.OpErase, api.OpChoose:
		o.N = 0
	case api.OpMove:
		o.N, o.Extend = 0, false
	case api.OpEdit:
		o.Edits = nil
	case api.OpSelect:
		o.Sels = nil
	}
	return o.Name == "" && o.Text == "" && o.N == 0 && !o.Extend && len(o.Edits) == 0 && len(o.Sels) == 0
}

// show appends the line of an operation without its end.
func show(b []byte, o api.Op) []byte {
	b = append(b, keyword(o.Kind)...)
	switch o.Kind {
	case api.OpSet:
		b = text(text(b, o.Name), o.Text)
	case api.OpType, api.OpInsert:
		b = text(b, o.Text)
	case api.OpErase, api.OpChoose:
		b = number(b, o.N)
	case api.OpMove:
		b = number(b, o.N)
		if o.Extend {
			b = number(b, 1)
		} else {
			b = number(b, 0)
		}
	case api.OpEdit:
		for _, e := range o.Edits {
			b = text(number(number(b, e.From), e.To), e.Text)
		}
	case api.OpSelect:
		for _, s := range o.Sels {
			b = number(number(b, s.Anchor), s.Head)
		}
	}
	return b
}

func number(b []byte, n int) []byte {
	return strconv.AppendInt(append(b, ' '), int64(n), 10)
}

func text(b []byte, s string) []byte {
	b = append(number(b, len(s)), ':')
	return append(b, s...)
}
