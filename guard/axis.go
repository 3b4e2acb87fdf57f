package guard

import "sort"

// axis with its rule, seen at x.
type axis struct {
	Rule
	x int
}

// stopsBelowHi: moved up by s, it can still be stopped within its envelope.
func (a axis) stopsBelowHi(s int) bool { return a.x+a.Noise+brake(a.Rule, s) <= a.Hi }

// stopsAboveLo: the same of an axis that is moved down by s.
func (a axis) stopsAboveLo(s int) bool { return a.x-a.Noise-brake(a.Rule, s) >= a.Lo }

// highest move from least to most after which it stops; the least one, if it stops after none.
func (a axis) highest(least, most int, stops func(axis, int) bool) int {
	// After a greater move it goes no less far, so that the first one which is too great can be found by halves.
	stopping := sort.Search(most-least+1, func(i int) bool { return !stops(a, least+i) })
	return least + max(stopping-1, 0)
}
