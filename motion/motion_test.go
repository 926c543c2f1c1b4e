package motion

import (
	"math"
	"math/rand"
	"slices"
	"strings"
	"testing"

	"gimlet/api"
	"gimlet/dice"
	"gimlet/lines"
	"gimlet/rope"
	"gimlet/sels"
	"gimlet/tally"
)

func of(t *testing.T, s string) lines.Lines {
	t.Helper()
	r, e := rope.New(dice.New(), s)
	if e != api.OK {
		t.Fatal(e)
	}
	return lines.Of(r)
}

func sel(anchor, head int) api.Sel { return api.Sel{Anchor: anchor, Head: head} }

func position(s string, at int) bool {
	return at == 0 || at == len(s) || s[at] < 128 || s[at] > 191
}

// slowStep does what the chapter says, byte by byte.
func slowStep(s string, at int, way int) int {
	word := func(c byte) bool {
		return c >= 128 || strings.IndexByte("_0123456789abcdefghijklmnopqrstuvwxyzABCDEFGHIJKLMNOPQRSTUVWXYZ", c) >= 0
	}
	start := strings.LastIndexByte(s[:at], '\n') + 1
	end := len(s)
	if k := strings.IndexByte(s[at:], '\n'); k >= 0 {
		end = at + k
	}
	col := tally.Of(s[start:at]).Runes
	switch way {
	case api.GoLeft:
		for at--; at > 0 && !position(s, at); at-- {
		}
		return max(at, 0)
	case api.GoRight:
		for at++; at < len(s) && !position(s, at); at++ {
		}
		return min(at, len(s))
	case api.GoHome:
		return start
	case api.GoEnd:
		return end
	case api.GoUp:
		if start == 0 {
			return 0
		}
		above := strings.LastIndexByte(s[:start-1], '\n') + 1
		return above + tally.Upto(s[above:start-1], api.Runes, col)
	case api.GoDown:
		if end == len(s) {
			return end
		}
		below := s[end+1:]
		if k := strings.IndexByte(below, '\n'); k >= 0 {
			below = below[:k]
		}
		return end + 1 + tally.Upto(below, api.Runes, col)
	case api.GoFoot:
		return len(s)
	case api.GoWordL:
		for at > 0 && !word(s[at-1]) {
			at--
		}
		for at > 0 && word(s[at-1]) {
			at--
		}
		return at
	case api.GoWordR:
		for at < len(s) && !word(s[at]) {
			at++
		}
		for at < len(s) && word(s[at]) {
			at++
		}
		return at
	}
	return 0
}

func texts() []string {
	all := []string{"", "\n", "ab cd", "é", "\x80\x80\x80", "a\n\nlonger\nb", "日本 語\nab\x80\x80\nc"}
	rnd := rand.New(rand.NewSource(11))
	for range 12 {
		var b strings.Builder
		for range rnd.Intn(150) {
			b.WriteString([]string{"a", "_", " ", "-", "\n", "é", "\U0001F600", "\x81", "Z9"}[rnd.Intn(9)])
		}
		all = append(all, b.String())
	}
	return all
}

func TestP9_1Step(t *testing.T) {
	if at, e := Step(of(t, "ab cd"), 5, api.GoWordL); at != 3 || e != api.OK {
		t.Error("the example of GoWordL")
	}
	if at, _ := Step(of(t, "é"), 2, api.GoLeft); at != 0 {
		t.Error("the example of GoLeft")
	}
	for _, s := range texts() {
		l := of(t, s)
		for at := range len(s) + 1 {
			for way := api.GoLeft; way <= api.GoWordR; way++ {
				if got, e := Step(l, at, way); e != api.OK || got != slowStep(s, at, way) {
					t.Fatalf("%q, Step(%d, %d): %d, not %d", s, at, way, got, slowStep(s, at, way))
				}
			}
		}
	}
}

func TestP9_1Refused(t *testing.T) {
	l := of(t, "ab")
	for _, c := range []struct {
		l       lines.Lines
		at, way int
		want    api.Errno
	}{
		{lines.Of(nil), -1, 0, api.ErrArg}, {l, -1, 11, api.ErrArg}, {l, 0, math.MinInt, api.ErrArg},
		{lines.Of(nil), -1, api.GoLeft, api.ErrNil}, {l, -1, api.GoTop, api.ErrRange}, {l, 3, api.GoFoot, api.ErrRange},
		{l, math.MaxInt, api.GoRight, api.ErrRange},
	} {
		if at, e := Step(c.l, c.at, c.way); at != 0 || e != c.want {
			t.Errorf("Step(%d, %d): %d, %d", c.at, c.way, at, e)
		}
	}
}

func TestP9_2Go(t *testing.T) {
	l := of(t, "ab cd\nef")
	for _, c := range []struct {
		way    int
		extend bool
		ss     []api.Sel
		want   []api.Sel
	}{
		{api.GoLeft, false, []api.Sel{sel(1, 4)}, []api.Sel{sel(1, 1)}},
		{api.GoLeft, false, []api.Sel{sel(4, 1)}, []api.Sel{sel(1, 1)}},
		{api.GoRight, false, []api.Sel{sel(4, 1)}, []api.Sel{sel(4, 4)}},
		{api.GoLeft, true, []api.Sel{sel(1, 4)}, []api.Sel{sel(1, 3)}},
		{api.GoLeft, true, []api.Sel{sel(4, 1)}, []api.Sel{sel(4, 0)}},
		{api.GoRight, false, []api.Sel{sel(2, 2), sel(0, 0)}, []api.Sel{sel(1, 1), sel(3, 3)}},
		{api.GoHome, false, []api.Sel{sel(1, 4), sel(8, 8)}, []api.Sel{sel(0, 0), sel(6, 6)}},
		{api.GoDown, false, []api.Sel{sel(4, 1)}, []api.Sel{sel(7, 7)}},
		{api.GoTop, false, []api.Sel{sel(1, 1), sel(3, 3), sel(8, 8)}, []api.Sel{sel(0, 0)}},
		{api.GoFoot, true, []api.Sel{sel(1, 1), sel(3, 3)}, []api.Sel{sel(1, 8)}},
		{api.GoRight, true, []api.Sel{sel(5, 3), sel(3, 1)}, []api.Sel{sel(5, 2)}},
	} {
		kept := slices.Clone(c.ss)
		got, e := Go(l, c.way, c.extend, c.ss...)
		if e != api.OK || !slices.Equal(got, c.want) || !slices.Equal(c.ss, kept) {
			t.Errorf("Go(%d, %v, %v): %v, %d", c.way, c.extend, c.ss, got, e)
		}
	}
}

func TestP9_2Refused(t *testing.T) {
	l := of(t, "ab")
	many := make([]api.Sel, api.MaxSels+1)
	for _, c := range []struct {
		l    lines.Lines
		way  int
		ss   []api.Sel
		want api.Errno
	}{
		{lines.Of(nil), 0, nil, api.ErrArg}, {lines.Of(nil), 1, nil, api.ErrNil}, {l, 1, nil, api.ErrArg},
		{l, 1, many, api.ErrFull}, {l, 1, []api.Sel{sel(0, 3)}, api.ErrRange}, {l, 99, []api.Sel{sel(0, 0)}, api.ErrArg},
	} {
		if got, e := Go(c.l, c.way, false, c.ss...); got != nil || e != c.want {
			t.Errorf("Go(%d, %v): %v, %d", c.way, c.ss, got, e)
		}
	}
}

func TestP9_2Random(t *testing.T) {
	rnd := rand.New(rand.NewSource(12))
	for _, s := range texts() {
		l := of(t, s)
		for range 100 {
			ss := make([]api.Sel, 1+rnd.Intn(4))
			for i := range ss {
				ss[i] = sel(rnd.Intn(len(s)+1), rnd.Intn(len(s)+1))
			}
			way, extend := 1+rnd.Intn(10), rnd.Intn(2) == 0
			want, _ := sels.Norm(len(s), ss...)
			for i, w := range want {
				head := slowStep(s, w.Head, way)
				if !extend && w.Head != w.Anchor && way == api.GoLeft {
					head = min(w.Head, w.Anchor)
				}
				if !extend && w.Head != w.Anchor && way == api.GoRight {
					head = max(w.Head, w.Anchor)
				}
				want[i].Head = head
				if !extend {
					want[i].Anchor = head
				}
			}
			want, _ = sels.Norm(len(s), want...)
			if got, e := Go(l, way, extend, ss...); e != api.OK || !slices.Equal(got, want) {
				t.Fatalf("%q, Go(%d, %v, %v): %v, not %v", s, way, extend, ss, got, want)
			}
		}
	}
}
