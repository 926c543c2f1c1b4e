package lines

import (
	"math"
	"math/rand"
	"strings"
	"testing"

	"gimlet/api"
	"gimlet/dice"
	"gimlet/rope"
	"gimlet/tally"
)

func of(t *testing.T, s string) Lines {
	t.Helper()
	r, e := rope.New(dice.New(), s)
	if e != api.OK {
		t.Fatal(e)
	}
	return Of(r)
}

// model tells the start and the end of each line.
func model(s string) [][2]int {
	var all [][2]int
	at := 0
	for _, line := range strings.Split(s, "\n") {
		all = append(all, [2]int{at, at + len(line)})
		at += len(line) + 1
	}
	return all
}

func texts() []string {
	all := []string{"", "\n", "ab\n\tc", "\n\n\n", "a\r\nb\n", "  \t x\n\t\t", "日本\né\U0001F600\x80\x80\n\xff"}
	rnd := rand.New(rand.NewSource(5))
	for range 10 {
		var b strings.Builder
		for range rnd.Intn(300) {
			b.WriteString([]string{"a", " ", "\t", "\n", "é", "\U0001F600", "\x81"}[rnd.Intn(7)])
		}
		all = append(all, b.String())
	}
	return all
}

func TestP4_1Lines(t *testing.T) {
	for _, s := range texts() {
		l, want := of(t, s), model(s)
		if l.Many() != len(want) {
			t.Errorf("%q has %d lines", s, l.Many())
		}
		for i, w := range want {
			start, e := l.Start(i)
			end, f := l.End(i)
			if start != w[0] || end != w[1] || e != api.OK || f != api.OK {
				t.Errorf("%q, line %d: %d to %d", s, i, start, end)
			}
			for off := w[0]; off <= w[1]; off++ {
				if at, e := l.At(off); at != i || e != api.OK {
					t.Errorf("%q, offset %d: line %d", s, off, at)
				}
			}
		}
		for _, line := range []int{-1, len(want), math.MinInt, math.MaxInt} {
			start, e := l.Start(line)
			end, f := l.End(line)
			if start != 0 || end != 0 || e != api.ErrRange || f != api.ErrRange {
				t.Errorf("%q, line %d", s, line)
			}
		}
		for _, off := range []int{-1, len(s) + 1} {
			if at, e := l.At(off); at != 0 || e != api.ErrRange {
				t.Errorf("%q, At(%d): %d, %d", s, off, at, e)
			}
		}
	}
}

func TestP4_1OfTheCurrentText(t *testing.T) {
	r, _ := rope.New(dice.New(), "a\nb")
	l := Of(r)
	r.Insert(1, "\n\n")
	if l.Many() != 4 || l.Len() != 5 || l.Text() != "a\n\n\nb" {
		t.Error("the lines are those of an earlier text")
	}
	l.Insert(0, "\n")
	if r.Text() != "\na\n\n\nb" {
		t.Error("the methods of the rope are methods of its lines")
	}
}

func TestP4_2PlaceOffset(t *testing.T) {
	for _, s := range texts() {
		l := of(t, s)
		for i, w := range model(s) {
			for _, way := range []int{api.Bytes, api.Runes, api.Units} {
				for off := w[0]; off <= w[1]; off++ {
					line, col, e := l.Place(off, way)
					if e != api.OK || line != i || col != tally.Of(s[w[0]:off]).By(way) {
						t.Errorf("%q, Place(%d, %d): %d, %d", s, off, way, line, col)
					}
				}
				for col := 0; col <= w[1]-w[0]+2; col++ {
					off, e := l.Offset(i, col, way)
					if want := w[0] + tally.Upto(s[w[0]:w[1]], way, col); e != api.OK || off != want {
						t.Errorf("%q, Offset(%d, %d, %d): %d, not %d", s, i, col, way, off, want)
					}
				}
			}
		}
	}
}

func TestP4_2Refused(t *testing.T) {
	l := of(t, "ab\n\tc")
	for _, way := range []int{api.Breaks, -1, 4} {
		if a, b, e := l.Place(99, way); a != 0 || b != 0 || e != api.ErrArg {
			t.Errorf("Place by %d", way)
		}
		if a, e := l.Offset(99, -1, way); a != 0 || e != api.ErrArg {
			t.Errorf("Offset by %d", way)
		}
	}
	for _, off := range []int{-1, 6} {
		if a, b, e := l.Place(off, api.Runes); a != 0 || b != 0 || e != api.ErrRange {
			t.Errorf("Place(%d)", off)
		}
	}
	for _, at := range [][2]int{{-1, 0}, {2, 0}, {0, -1}, {1, math.MinInt}} {
		if a, e := l.Offset(at[0], at[1], api.Bytes); a != 0 || e != api.ErrRange {
			t.Errorf("Offset(%d, %d)", at[0], at[1])
		}
	}
	for _, way := range []int{api.Bytes, api.Runes, api.Units} {
		if a, e := l.Offset(0, math.MaxInt, way); a != 2 || e != api.OK {
			t.Errorf("Offset of a great column: %d, %d", a, e)
		}
		if a, e := l.Offset(1, math.MaxInt, way); a != 5 || e != api.OK {
			t.Errorf("Offset of a great column: %d, %d", a, e)
		}
	}
}

func TestP4_3Indent(t *testing.T) {
	l := of(t, "ab\n\tc\n \t \t\n\n \n  x ")
	for i, want := range []string{"", "\t", " \t \t", "", " ", "  "} {
		if s, e := l.Indent(i); s != want || e != api.OK {
			t.Errorf("Indent(%d): %q", i, s)
		}
	}
	for _, line := range []int{-1, 6} {
		if s, e := l.Indent(line); s != "" || e != api.ErrRange {
			t.Errorf("Indent(%d)", line)
		}
	}
}

func TestNilRope(t *testing.T) {
	l := Of(nil)
	_, a := l.Start(-1)
	_, b := l.End(0)
	_, c := l.At(-1)
	_, _, d := l.Place(-1, 9)
	_, f := l.Offset(-1, -1, 9)
	_, g := l.Indent(-1)
	for _, e := range []api.Errno{a, b, c, d, f, g, l.Insert(0, "a")} {
		if e != api.ErrNil {
			t.Errorf("%d, not ErrNil", e)
		}
	}
	if l.Many() != 0 || l.Len() != 0 {
		t.Error("Many, Len")
	}
}
