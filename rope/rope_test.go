package rope

import (
	"math"
	"math/rand"
	"strings"
	"testing"

	"gimlet/api"
	"gimlet/dice"
	"gimlet/tally"
)

func must(t *testing.T, d *dice.Dice, parts ...string) *Rope {
	t.Helper()
	r, e := New(d, parts...)
	if e != api.OK || r == nil {
		t.Fatalf("New: %d", e)
	}
	return r
}

func TestP3_1New(t *testing.T) {
	if r := must(t, dice.New(), "ab", "cd"); r.Text() != "abcd" || r.Len() != 4 {
		t.Error("the example")
	}
	if r := must(t, dice.New()); r.Text() != "" || r.Len() != 0 || len(r.Pieces()) != 0 {
		t.Error("an empty rope")
	}
	if r, e := New(nil, strings.Repeat("a", api.MaxDoc+1)); r != nil || e != api.ErrNil {
		t.Error("no dice")
	}
	full := strings.Repeat("a", api.MaxDoc)
	if r := must(t, dice.New(), full); r.Len() != api.MaxDoc {
		t.Error("a text at the limit")
	}
	if r, e := New(dice.New(), full, "", "b"); r != nil || e != api.ErrSize {
		t.Error("a text beyond the limit")
	}
}

func TestP3_1Slice(t *testing.T) {
	r := must(t, dice.New(), "abcd")
	for from := -2; from <= 6; from++ {
		for to := -2; to <= 6; to++ {
			s, e := r.Slice(from, to)
			if from >= 0 && from <= to && to <= 4 {
				if e != api.OK || s != "abcd"[from:to] {
					t.Errorf("Slice(%d, %d): %q, %d", from, to, s, e)
				}
			} else if e != api.ErrRange || s != "" {
				t.Errorf("Slice(%d, %d): %q, %d", from, to, s, e)
			}
		}
	}
}

func TestP3_1InsertDelete(t *testing.T) {
	r := must(t, dice.New(), "abcd")
	for _, at := range []int{-1, 5, math.MinInt, math.MaxInt} {
		if r.Insert(at, strings.Repeat("x", api.MaxDoc)) != api.ErrRange {
			t.Errorf("Insert at %d", at)
		}
	}
	if r.Insert(4, strings.Repeat("x", api.MaxDoc-3)) != api.ErrSize || r.Text() != "abcd" {
		t.Error("Insert beyond the limit")
	}
	if r.Delete(3, 2) != api.ErrRange || r.Delete(-1, 2) != api.ErrRange || r.Delete(0, 5) != api.ErrRange || r.Text() != "abcd" {
		t.Error("Delete of what is no stretch")
	}
	if r.Insert(2, "xy") != api.OK || r.Text() != "abxycd" || r.Delete(1, 3) != api.OK || r.Text() != "aycd" {
		t.Error("Insert, Delete")
	}
	if r.Insert(4, strings.Repeat("x", api.MaxDoc-4)) != api.OK || r.Len() != api.MaxDoc || r.Insert(0, "x") != api.ErrSize {
		t.Error("Insert at the limit")
	}
	if r.Insert(9, "") != api.OK || r.Delete(7, 7) != api.OK || r.Len() != api.MaxDoc {
		t.Error("nothing is inserted or removed")
	}
}

func TestP3_1CutJoin(t *testing.T) {
	r := must(t, dice.New(), "abcd")
	if o, e := r.Cut(5); o != nil || e != api.ErrRange {
		t.Error("Cut behind the end")
	}
	if o, e := r.Cut(-1); o != nil || e != api.ErrRange || r.Text() != "abcd" {
		t.Error("Cut before the beginning")
	}
	o, e := r.Cut(1)
	if e != api.OK || r.Text() != "a" || o.Text() != "bcd" {
		t.Error("Cut")
	}
	if r.Join(nil) != api.ErrNil || r.Join(r) != api.ErrArg || r.Text() != "a" {
		t.Error("Join of nothing, of itself")
	}
	big := must(t, dice.New(), strings.Repeat("x", api.MaxDoc-2))
	if big.Join(o) != api.ErrSize || o.Text() != "bcd" || big.Len() != api.MaxDoc-2 {
		t.Error("Join beyond the limit")
	}
	full, rest := must(t, dice.New(), strings.Repeat("x", api.MaxDoc-3)), must(t, dice.New(), "abc")
	if full.Join(rest) != api.OK || full.Len() != api.MaxDoc {
		t.Error("Join up to the limit")
	}
	if o.Join(r) != api.OK || o.Text() != "bcda" || r.Text() != "" || r.Len() != 0 {
		t.Error("Join")
	}
	if r.Insert(0, "new") != api.OK || r.Text() != "new" || o.Text() != "bcda" {
		t.Error("the emptied rope goes on by itself")
	}
}

func TestP3_1Twin(t *testing.T) {
	r := must(t, dice.New(), "abcd")
	if r.Twin(nil) != nil {
		t.Error("no dice")
	}
	o := r.Twin(dice.New(4))
	r.Insert(0, "x")
	o.Delete(0, 1)
	if r.Text() != "xabcd" || o.Text() != "bcd" {
		t.Error("the two ropes hang together")
	}
	if p := r.Twin(dice.New(4)).Pieces(); len(p) != 1 || p[0].Prio != 4 {
		t.Error("the twin's dice")
	}
}

func TestP3_2CountUpto(t *testing.T) {
	r := must(t, dice.New(), "abcd")
	for _, at := range []int{-1, 5} {
		if c, e := r.Count(at); c != (tally.Tally{}) || e != api.ErrRange {
			t.Errorf("Count(%d)", at)
		}
	}
	if r.Upto(4, 1) != -1 || r.Upto(-1, 1) != -1 || r.Upto(api.Bytes, -1) != -1 {
		t.Error("Upto of what there is not")
	}
	rnd := rand.New(rand.NewSource(2))
	for range 30 {
		s := randomText(rnd, rnd.Intn(700))
		r := must(t, dice.New(rnd.Uint32()), s)
		for range 40 {
			at, way, n := rnd.Intn(len(s)+1), rnd.Intn(4), rnd.Intn(len(s)+3)
			if c, e := r.Count(at); e != api.OK || c != tally.Of(s[:at]) {
				t.Fatalf("Count(%d) of %q: %v", at, s, c)
			}
			if got, want := r.Upto(way, n), tally.Upto(s, way, n); got != want {
				t.Fatalf("Upto(%d, %d) of %q: %d, not %d", way, n, s, got, want)
			}
		}
	}
}

func randomText(rnd *rand.Rand, n int) string {
	parts := []string{"a", "b", "\n", "é", "日", "\U0001F600", "\x80", "\xff"}
	var b strings.Builder
	for range n {
		b.WriteString(parts[rnd.Intn(len(parts))])
	}
	return b.String()
}

// checkTree holds the pieces against what P3.3 says of them.
func checkTree(t *testing.T, r *Rope) {
	t.Helper()
	ps := r.Pieces()
	text := ""
	for i, p := range ps {
		text += p.Text
		if len(p.Text) == 0 || len(p.Text) > api.Chunk {
			t.Fatalf("a piece of %d bytes", len(p.Text))
		}
		if i > 0 && len(ps[i-1].Text)+len(p.Text) <= api.Chunk {
			t.Fatalf("pieces %d and %d are short", i-1, i)
		}
	}
	if text != r.Text() || len(text) != r.Len() {
		t.Fatal("the pieces are not the text")
	}
	checkHeap(t, ps, 0, math.MaxUint32)
}

func checkHeap(t *testing.T, ps []Piece, depth int, most uint32) {
	t.Helper()
	if len(ps) == 0 {
		return
	}
	root := -1
	for i, p := range ps {
		if p.Depth == depth && root >= 0 {
			t.Fatalf("two roots at depth %d", depth)
		}
		if p.Depth == depth {
			root = i
		}
	}
	if root < 0 || ps[root].Prio > most {
		t.Fatalf("no root, or one above its parent, at depth %d", depth)
	}
	checkHeap(t, ps[:root], depth+1, ps[root].Prio)
	checkHeap(t, ps[root+1:], depth+1, ps[root].Prio)
}

// play does the same random calls with any dice and returns all that is seen.
func play(t *testing.T, d *dice.Dice, seed int64, check bool) string {
	rnd := rand.New(rand.NewSource(seed))
	r, _ := New(d, randomText(rnd, 300))
	o, _ := New(d, randomText(rnd, 100))
	seen := ""
	for range 120 {
		at := rnd.Intn(r.Len() + 1)
		switch rnd.Intn(6) {
		case 0, 1:
			r.Insert(at, randomText(rnd, rnd.Intn(5)))
		case 2:
			r.Insert(at, randomText(rnd, rnd.Intn(200)))
		case 3:
			r.Delete(at, min(at+rnd.Intn(90), r.Len()))
		case 4:
			c, _ := r.Cut(at)
			o.Join(c)
			r, o = o, r
		case 5:
			r.Join(o)
		}
		if check {
			checkTree(t, r)
			checkTree(t, o)
		}
		c, _ := r.Count(r.Len() / 2)
		seen += r.Text() + "|" + o.Text() + "|" + string(rune('0'+c.Breaks))
	}
	return seen
}

func TestP3_3Tree(t *testing.T) {
	falling := make([]uint32, 500)
	for i := range falling {
		falling[i] = uint32(1000 - i)
	}
	for seed := range int64(20) {
		play(t, dice.New(uint32(seed)), seed, true)
		play(t, dice.New(falling...), seed, true)
		play(t, dice.New(make([]uint32, 4000)...), seed, true)
	}
}

func TestP3_3PrioritiesAreTheDices(t *testing.T) {
	known := map[uint32]bool{}
	for d, i := dice.New(1, 2, 3), 0; i < 5000; i++ {
		known[d.Next()] = true
	}
	r := must(t, dice.New(1, 2, 3), strings.Repeat("abcdefg", 100))
	rnd := rand.New(rand.NewSource(3))
	for range 100 {
		r.Insert(rnd.Intn(r.Len()+1), randomText(rnd, 9))
		r.Delete(r.Len()/3, r.Len()/3+9)
	}
	for _, p := range r.Pieces() {
		if !known[p.Prio] {
			t.Fatalf("%d is no number of the dice", p.Prio)
		}
	}
}

func TestP3_4NothingHangsOnTheDice(t *testing.T) {
	for seed := range int64(10) {
		want := play(t, dice.New(), seed, false)
		if play(t, dice.New(9, 9, 9, 1, 2), seed, false) != want || play(t, dice.New(make([]uint32, 3000)...), seed, false) != want {
			t.Fatal("a result hangs on the dice")
		}
	}
}

func TestP3_1AgainstAString(t *testing.T) {
	rnd := rand.New(rand.NewSource(4))
	r := must(t, dice.New())
	s := ""
	for range 2000 {
		from := rnd.Intn(len(s) + 1)
		to := from + rnd.Intn(len(s)-from+1)
		if rnd.Intn(3) > 0 {
			x := randomText(rnd, rnd.Intn(12))
			s = s[:from] + x + s[from:]
			r.Insert(from, x)
		} else {
			to = min(to, from+70)
			s = s[:from] + s[to:]
			r.Delete(from, to)
		}
		to = min(max(from, to), len(s))
		if got, _ := r.Slice(min(from, to), to); r.Text() != s || got != s[min(from, to):to] {
			t.Fatal("the rope's text is not the string")
		}
	}
}

func TestR3Nil(t *testing.T) {
	var r *Rope
	if r.Len() != 0 || r.Text() != "" || r.Pieces() != nil || r.Twin(dice.New()) != nil || r.Upto(0, 1) != 0 {
		t.Error("zero values")
	}
	_, a := r.Slice(0, 0)
	_, b := r.Cut(0)
	_, c := r.Count(0)
	for _, e := range []api.Errno{a, b, c, r.Insert(0, ""), r.Delete(0, 0), r.Join(nil), r.Join(r)} {
		if e != api.ErrNil {
			t.Errorf("%d, not ErrNil", e)
		}
	}
	var zero Rope
	if zero.Insert(0, "abc") != api.OK || zero.Text() != "abc" {
		t.Error("a zero rope")
	}
}
