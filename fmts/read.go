package fmts

import (
	"strings"

	"gimlet/api"
	"gimlet/casing"
	"gimlet/spot"
)

// Read parses the format that begins at an offset and ends before a slash.
func Read(s string, at int) ([]api.Fmt, int, bool) {
	if at < 0 || at > len(s) {
		return nil, 0, false
	}
	r := reader{Spot: spot.Spot{Text: s, At: at}}
	for !r.Done() {
		if r.Has('/') {
			r.flush()
			return r.parts, r.At, true
		}
		start := r.At
		if f, ok := r.part(); ok {
			r.flush()
			r.parts = append(r.parts, f)
			continue
		}
		r.At = start
		r.Escape(inText)
		r.text = append(r.text, s[r.At])
		r.At++
	}
	return nil, 0, false
}

type reader struct {
	spot.Spot
	parts []api.Fmt
	text  []byte // what was read behind the last of the parts
	gone  string // the ends that have been looked for in vain; no later search can find them
}

func (r *reader) flush() {
	if len(r.text) > 0 {
		r.parts = append(r.parts, api.Fmt{Kind: api.FmtText, Then: string(r.text)})
		r.text = nil
	}
}

// part reads a part that begins with a dollar, if one is complete here.
func (r *reader) part() (api.Fmt, bool) {
	if !r.Take('$') {
		return api.Fmt{}, false
	}
	braced := r.Take('{')
	n, ok := r.Number()
	if !ok {
		return api.Fmt{}, false
	}
	if !braced || r.Take('}') {
		return api.Fmt{Kind: api.FmtPart, N: n}, true
	}
	if !r.Take(':') {
		return api.Fmt{}, false
	}
	f, ok := r.behindColon()
	f.N = n
	return f, ok
}

func (r *reader) behindColon() (api.Fmt, bool) {
	switch {
	case r.Take('/'):
		return r.turned()
	case r.Take('+'):
		then, ok := r.until('}')
		return api.Fmt{Kind: api.FmtIf, Then: then}, ok
	case r.Take('?'):
		then, ok := r.until(':')
		if !ok {
			return api.Fmt{}, false
		}
		other, ok := r.until('}')
		return api.Fmt{Kind: api.FmtBoth, Then: then, Else: other}, ok
	}
	r.Take('-')
	other, ok := r.until('}')
	return api.Fmt{Kind: api.FmtElse, Else: other}, ok
}

func (r *reader) turned() (api.Fmt, bool) {
	for way := api.Up; way <= api.Pascal; way++ {
		if r.TakeAll(casing.Name(way) + "}") {
			return api.Fmt{Kind: api.FmtCase, Case: way}, true
		}
	}
	return api.Fmt{}, false
}

func (r *reader) until(end byte) (string, bool) {
	if strings.IndexByte(r.gone, end) >= 0 {
		return "", false
	}
	text, ok := r.Until(end, inBraces)
	if !ok {
		r.gone += string([]byte{end})
	}
	return text, ok
}
