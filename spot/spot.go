// Package spot holds a position in a text that is parsed byte by byte, and knows the backslashes of formats and snippets.
package spot

import (
	"strings"

	"gimlet/octet"
)

// Spot is a position in a text.
type Spot struct {
	Text string
	At   int
}

// Done reports whether the end is reached.
func (s *Spot) Done() bool { return s.At >= len(s.Text) }

// Has reports whether c comes next.
func (s *Spot) Has(c byte) bool { return !s.Done() && s.Text[s.At] == c }

// Take passes c, if it comes next.
func (s *Spot) Take(c byte) bool {
	if !s.Has(c) {
		return false
	}
	s.At++
	return true
}

// TakeAll passes a text, if it comes next.
func (s *Spot) TakeAll(text string) bool {
	if !strings.HasPrefix(s.Text[s.At:], text) {
		return false
	}
	s.At += len(text)
	return true
}

// Number passes 1 to 4 digits that are not followed by another one.
func (s *Spot) Number() (int, bool) {
	n, k := 0, s.At
	for k < len(s.Text) && k < s.At+5 && octet.Digit(s.Text[k]) {
		n = n*10 + int(s.Text[k]-'0')
		k++
	}
	if k == s.At || k == s.At+5 {
		return 0, false
	}
	s.At = k
	return n, true
}

// Escape passes a backslash, if one of the bytes of escapable is behind it.
func (s *Spot) Escape(escapable string) {
	if s.Has('\\') && s.At+1 < len(s.Text) && strings.IndexByte(escapable, s.Text[s.At+1]) >= 0 {
		s.At++
	}
}

// Until passes everything up to the first end that is not escaped, and that end, and returns the text before it without
// the backslashes that escape. If there is no such end, it passes nothing.
func (s *Spot) Until(end byte, escapable string) (string, bool) {
	start := s.At
	var b strings.Builder
	for !s.Done() {
		if s.Take(end) {
			return b.String(), true
		}
		s.Escape(escapable)
		b.WriteByte(s.Text[s.At])
		s.At++
	}
	s.At = start
	return "", false
}

// Mark returns a text with a backslash before each of the bytes of escapable.
func Mark(text string, escapable string) string {
	var b strings.Builder
	for i := range len(text) {
		if strings.IndexByte(escapable, text[i]) >= 0 {
			b.WriteByte('\\')
		}
		b.WriteByte(text[i])
	}
	return b.String()
}
