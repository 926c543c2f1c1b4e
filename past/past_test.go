package past

import (
	"math"
	"math/rand"
	"testing"

	"gimlet/api"
)

func of(t *testing.T, most int) *Past[int] {
	t.Helper()
	p, e := New[int](most)
	if e != api.OK || p == nil {
		t.Fatalf("New(%d): %d", most, e)
	}
	return p
}

func many(t *testing.T, p *Past[int], earlier, later int) {
	t.Helper()
	if a, b := p.Many(); a != earlier || b != later {
		t.Errorf("Many: %d and %d, not %d and %d", a, b, earlier, later)
	}
}

func TestP29_1New(t *testing.T) {
	for _, most := range []int{0, -1, api.MaxUndo + 1, math.MinInt, math.MaxInt} {
		if p, e := New[string](most); p != nil || e != api.ErrArg {
			t.Errorf("New(%d): %d", most, e)
		}
	}
	many(t, of(t, 1), 0, 0)
	many(t, of(t, api.MaxUndo), 0, 0)
}

func TestP29_1PushBackForth(t *testing.T) {
	p := of(t, 3)
	if x, ok := p.Back(9); x != 0 || ok {
		t.Error("Back of an empty history")
	}
	if x, ok := p.Forth(9); x != 0 || ok {
		t.Error("Forth of an empty history")
	}
	p.Push(1)
	many(t, p, 1, 0)
	if x, ok := p.Back(2); x != 1 || !ok {
		t.Errorf("Back: %d", x)
	}
	many(t, p, 0, 1)
	if x, ok := p.Back(7); x != 0 || ok {
		t.Errorf("Back at the end: %d", x)
	}
	if x, ok := p.Forth(1); x != 2 || !ok {
		t.Errorf("Forth: %d", x)
	}
	many(t, p, 1, 0)
	p.Back(2)
	p.Push(5)
	many(t, p, 1, 0)
	if x, ok := p.Forth(9); x != 0 || ok {
		t.Errorf("Forth after Push: %d", x)
	}
}

func TestP29_1TheOldestGo(t *testing.T) {
	p := of(t, 3)
	for x := 1; x <= 5; x++ {
		p.Push(x)
	}
	many(t, p, 3, 0)
	for want := 5; want >= 3; want-- {
		if x, ok := p.Back(want + 1); x != want || !ok {
			t.Errorf("%d, not %d", x, want)
		}
	}
	if _, ok := p.Back(0); ok {
		t.Error("the oldest are still there")
	}
	for want := 4; want <= 6; want++ {
		if x, ok := p.Forth(want - 1); x != want || !ok {
			t.Errorf("%d, not %d", x, want)
		}
	}
	many(t, p, 3, 0)
}

func TestP29_2BackAndForth(t *testing.T) {
	rnd := rand.New(rand.NewSource(33))
	p := of(t, 10)
	for now := range 3000 {
		if rnd.Intn(2) == 0 {
			p.Push(now)
		}
		a, b := p.Many()
		if x, ok := p.Back(now); ok {
			if y, ok := p.Forth(x); !ok || y != now {
				t.Fatalf("Forth: %d, not %d", y, now)
			}
		} else if a > 0 {
			t.Fatal("Back")
		}
		if x, ok := p.Forth(now); ok {
			if y, ok := p.Back(x); !ok || y != now {
				t.Fatalf("Back: %d, not %d", y, now)
			}
		} else if b > 0 {
			t.Fatal("Forth")
		}
		many(t, p, a, b)
		if rnd.Intn(3) == 0 {
			p.Back(now)
		}
	}
}

func TestR3Nil(t *testing.T) {
	var p *Past[string]
	p.Push("a")
	x, a := p.Back("a")
	y, b := p.Forth("a")
	if n, m := p.Many(); x != "" || y != "" || a || b || n != 0 || m != 0 {
		t.Error("nil")
	}
	var zero Past[string]
	zero.Push("a")
	if n, _ := zero.Many(); n != 0 {
		t.Error("a zero history keeps nothing")
	}
}
