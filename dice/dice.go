// Package dice produces the numbers that the rope uses as priorities.
package dice

import "slices"

// Dice is a deterministic source of numbers.
type Dice struct {
	rest []uint32
	last uint32
}

// New returns a dice that first produces the given numbers.
func New(nums ...uint32) *Dice {
	return &Dice{rest: slices.Clone(nums)}
}

// Next returns the next number.
func (d *Dice) Next() uint32 {
	if d == nil {
		return 0
	}
	if len(d.rest) == 0 {
		d.last = d.last*1664525 + 1013904223
		return d.last
	}
	d.last, d.rest = d.rest[0], d.rest[1:]
	return d.last
}

// Left returns how many of the given numbers have not been returned yet.
func (d *Dice) Left() int {
	if d == nil {
		return 0
	}
	return len(d.rest)
}
