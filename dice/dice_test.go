package dice

import "testing"

func TestP1_1GivenNumbersComeFirst(t *testing.T) {
	d := New(3, 0, 1<<32-1)
	for i, want := range []uint32{3, 0, 1<<32 - 1} {
		if d.Left() != 3-i {
			t.Errorf("Left before number %d: %d", i, d.Left())
		}
		if got := d.Next(); got != want {
			t.Errorf("number %d: %d, not %d", i, got, want)
		}
	}
	if d.Left() != 0 {
		t.Errorf("Left at the end: %d", d.Left())
	}
}

func TestP1_1NumbersBehindTheGivenOnes(t *testing.T) {
	d := New(7)
	d.Next()
	last := d.Next()
	if last != 1025555898 || d.Left() != 0 {
		t.Errorf("the example: %d", last)
	}
	for range 1000 {
		last = last*1664525 + 1013904223
		if got := d.Next(); got != last {
			t.Fatalf("%d, not %d", got, last)
		}
	}
}

func TestP1_1NothingGiven(t *testing.T) {
	if d := New(); d.Left() != 0 || d.Next() != 1013904223 {
		t.Error("the first number without any given one")
	}
	d := New(5, 0)
	d.Next()
	d.Next()
	if d.Next() != 1013904223 {
		t.Error("a given 0 is the number returned last")
	}
}

func TestP1_1ArgumentsAreNotKept(t *testing.T) {
	nums := []uint32{1, 2}
	a, b := New(nums...), New(nums...)
	nums[0], nums[1] = 8, 9
	if a.Next() != 1 || a.Next() != 2 || b.Left() != 2 || b.Next() != 1 {
		t.Error("a dice hangs on its argument or on another dice")
	}
}

func TestP1_1Nil(t *testing.T) {
	var d *Dice
	if d.Next() != 0 || d.Left() != 0 {
		t.Error("nil")
	}
}
