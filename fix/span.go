package fix

import "fulmar/api"

// Check a span.
func Check(s api.Span) error {
	if s.Lo > s.Hi || Of(s.Lo) != s.Lo || Of(s.Hi) != s.Hi {
		return api.ErrForm
	}
	return nil
}

// SpanAdd: the sums of what is in a and in b.
func SpanAdd(a, b api.Span) (api.Span, error) {
	return both(a, b, func(x, y int) int { return Add(x, y) })
}

// SpanMul: the products.
func SpanMul(a, b api.Span) (api.Span, error) {
	return both(a, b, func(x, y int) int { return Mul(x, y) })
}

// In: is a number in a span?
func In(x int, s api.Span) bool { return s.Lo <= x && x <= s.Hi }

// IsFrom: In, of a span that has no name.
func IsFrom(x, lo, hi int) bool { return In(x, api.Span{Lo: lo, Hi: hi}) }

// both spans make what reckon makes of their numbers.
func both(a, b api.Span, reckon func(x, y int) int) (api.Span, error) {
	checks := [2]func() error{
		func() error { return Check(a) },
		func() error { return Check(b) },
	}
	for _, check := range checks {
		if err := check(); err != nil {
			return api.Span{}, err
		}
	}
	return corners(a, b, reckon), nil
}

// corners are enough: along either number sums and products rise or fall all the way, and rounding and clipping turn none of that round.
func corners(a, b api.Span, reckon func(x, y int) int) api.Span {
	made := [4]int{reckon(a.Lo, b.Lo), reckon(a.Lo, b.Hi), reckon(a.Hi, b.Lo), reckon(a.Hi, b.Hi)}
	s := api.Span{Lo: made[0], Hi: made[0]}
	for _, x := range made {
		s.Lo, s.Hi = min(s.Lo, x), max(s.Hi, x)
	}
	return s
}
