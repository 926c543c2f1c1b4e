package stops

import (
	"slices"

	"gimlet/api"
)

// pair says that a number waits for another one, of which a stop stands in one of its own stops.
type pair struct{ outer, inner int }

// Order returns the numbers of all stops, those inside before those around them.
func Order(i api.Inst) []int {
	waits, holds := waiting(i)
	var left []int
	for _, s := range i.Stops {
		left = append(left, s.N)
	}
	slices.Sort(left)
	left = slices.Compact(left)
	var all []int
	for len(left) > 0 {
		k := max(slices.IndexFunc(left, func(n int) bool { return waits[n] == 0 }), 0)
		n := left[k]
		left = slices.Delete(left, k, k+1)
		all = append(all, n)
		for _, outer := range holds[n] {
			waits[outer]--
		}
	}
	return all
}

// waiting returns, by number, for how many others it waits, and which others wait for it.
func waiting(i api.Inst) (map[int]int, map[int][]int) {
	waits, holds := map[int]int{}, map[int][]int{}
	seen := map[pair]struct{}{}
	for k, s := range i.Stops {
		for up, steps := s.Up, 0; up >= 0 && up < len(i.Stops) && steps < len(i.Stops); up, steps = i.Stops[up].Up, steps+1 {
			p := pair{outer: i.Stops[up].N, inner: i.Stops[k].N}
			if _, ok := seen[p]; ok || p.outer == p.inner {
				continue
			}
			seen[p] = struct{}{}
			waits[p.outer]++
			holds[p.inner] = append(holds[p.inner], p.outer)
		}
	}
	return waits, holds
}
