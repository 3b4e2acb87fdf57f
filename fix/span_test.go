package fix_test

import (
	"math"
	"testing"

	"fulmar/api"
	"fulmar/fix"
)

func wrongSpans() []api.Span {
	return []api.Span{
		{Lo: 1, Hi: 0}, {Lo: 5, Hi: -5}, {Lo: 2147483647, Hi: -2147483647},
		{Lo: -2147483648, Hi: 0}, {Lo: 0, Hi: 2147483648},
		{Lo: math.MinInt, Hi: math.MaxInt}, {Lo: math.MaxInt, Hi: math.MinInt},
		{Lo: math.MaxInt, Hi: math.MaxInt}, {Lo: math.MinInt, Hi: math.MinInt},
		{Lo: -2147483648, Hi: -2147483648}, {Lo: 2147483648, Hi: 2147483648},
	}
}

func rightSpans() []api.Span {
	return []api.Span{
		{}, {Lo: -3, Hi: 8}, {Lo: 4, Hi: 4}, {Lo: -9, Hi: -2},
		{Lo: -2147483647, Hi: 2147483647}, {Lo: 2147483647, Hi: 2147483647}, {Lo: -2147483647, Hi: -2147483647},
	}
}

// A3: Check.
func TestCheck(t *testing.T) {
	for _, s := range wrongSpans() {
		if err := fix.Check(s); err != error(api.ErrForm) {
			t.Errorf("Check(%v): %v", s, err)
		}
	}
	for _, s := range rightSpans() {
		if err := fix.Check(s); err != nil {
			t.Errorf("Check(%v): %v", s, err)
		}
	}
}

// A3: a wrong span on either side, or on both, is told, and nothing else is.
func TestSpansWrong(t *testing.T) {
	check := func(a, b api.Span) {
		t.Helper()
		if s, err := fix.SpanAdd(a, b); s != (api.Span{}) || err != error(api.ErrForm) {
			t.Errorf("SpanAdd(%v, %v): %v, %v", a, b, s, err)
		}
		if s, err := fix.SpanMul(a, b); s != (api.Span{}) || err != error(api.ErrForm) {
			t.Errorf("SpanMul(%v, %v): %v, %v", a, b, s, err)
		}
	}
	for _, w := range wrongSpans() {
		check(w, w)
		for _, r := range rightSpans() {
			check(w, r)
			check(r, w)
		}
	}
}

// least span that has what reckon makes of each number with each, by trying them all.
func least(a, b api.Span, reckon func(x, y int) int) api.Span {
	s := api.Span{Lo: math.MaxInt, Hi: math.MinInt}
	for x := a.Lo; x <= a.Hi; x++ {
		for y := b.Lo; y <= b.Hi; y++ {
			z := reckon(x, y)
			s.Lo, s.Hi = min(s.Lo, z), max(s.Hi, z)
		}
	}
	return s
}

// shortSpans lie about 0, about halves, and at the ends of the numbers.
func shortSpans() []api.Span {
	var l []api.Span
	for _, lo := range []int{-2147483647, -1030, -260, -130, -129, -128, -6, -3, -1, 0, 1, 2, 125, 127, 128, 256, 500, 2147483630} {
		for _, n := range []int{0, 1, 3, 9, 17} {
			l = append(l, api.Span{Lo: lo, Hi: lo + n})
		}
	}
	return l
}

// A3: SpanAdd and SpanMul are the least spans that have everything.
func TestSpansLeast(t *testing.T) {
	add := func(x, y int) int { return fix.Add(x, y) }
	for _, a := range shortSpans() {
		for _, b := range shortSpans() {
			if got, err := fix.SpanAdd(a, b); got != least(a, b, add) || err != nil {
				t.Errorf("SpanAdd(%v, %v): %v, %v, want %v", a, b, got, err, least(a, b, add))
			}
			if got, err := fix.SpanMul(a, b); got != least(a, b, fix.Mul) || err != nil {
				t.Errorf("SpanMul(%v, %v): %v, %v, want %v", a, b, got, err, least(a, b, fix.Mul))
			}
		}
	}
}

// A3: spans too wide to try them all.
func TestSpansWide(t *testing.T) {
	const most = 2147483647
	all := api.Span{Lo: -most, Hi: most}
	for _, c := range []struct{ a, b, sum, product api.Span }{
		{all, all, all, all},
		{all, api.Span{Lo: 1, Hi: 1}, api.Span{Lo: -most + 1, Hi: most}, api.Span{Lo: -8388608, Hi: 8388608}},
		{all, api.Span{}, all, api.Span{}},
		{api.Span{Lo: -512, Hi: most}, api.Span{Lo: -256, Hi: -256}, api.Span{Lo: -768, Hi: most - 256}, api.Span{Lo: -most, Hi: 512}},
		{api.Span{Lo: -1000, Hi: 2000}, api.Span{Lo: -768, Hi: 512}, api.Span{Lo: -1768, Hi: 2512}, api.Span{Lo: -6000, Hi: 4000}},
		{api.Span{Lo: -2000, Hi: -1000}, api.Span{Lo: -768, Hi: -512}, api.Span{Lo: -2768, Hi: -1512}, api.Span{Lo: 2000, Hi: 6000}},
	} {
		for _, o := range [][2]api.Span{{c.a, c.b}, {c.b, c.a}} {
			if got, err := fix.SpanAdd(o[0], o[1]); got != c.sum || err != nil {
				t.Errorf("SpanAdd(%v, %v): %v, %v, want %v", o[0], o[1], got, err, c.sum)
			}
			if got, err := fix.SpanMul(o[0], o[1]); got != c.product || err != nil {
				t.Errorf("SpanMul(%v, %v): %v, %v, want %v", o[0], o[1], got, err, c.product)
			}
		}
	}
}

// A3: In, of any span: one that may not be has its numbers, too. IsFrom is the same of both ends.
func TestIn(t *testing.T) {
	for _, c := range []struct {
		x    int
		s    api.Span
		want bool
	}{
		{3, api.Span{Lo: 1, Hi: 5}, true}, {1, api.Span{Lo: 1, Hi: 5}, true}, {5, api.Span{Lo: 1, Hi: 5}, true},
		{0, api.Span{Lo: 1, Hi: 5}, false}, {6, api.Span{Lo: 1, Hi: 5}, false},
		{0, api.Span{}, true}, {1, api.Span{}, false}, {-1, api.Span{}, false},
		{3, api.Span{Lo: 5, Hi: 1}, false}, {5, api.Span{Lo: 5, Hi: 1}, false}, {1, api.Span{Lo: 5, Hi: 1}, false},
		{1 << 40, api.Span{Lo: 1 << 39, Hi: 1 << 41}, true}, {1 << 42, api.Span{Lo: 1 << 39, Hi: 1 << 41}, false},
		{math.MaxInt, api.Span{Lo: math.MinInt, Hi: math.MaxInt}, true}, {math.MinInt, api.Span{Lo: math.MinInt, Hi: math.MaxInt}, true},
		{math.MinInt, api.Span{Lo: math.MinInt, Hi: math.MinInt}, true}, {math.MaxInt, api.Span{Lo: math.MaxInt, Hi: math.MinInt}, false},
	} {
		if got := fix.In(c.x, c.s); got != c.want {
			t.Errorf("In(%d, %v): %v, want %v", c.x, c.s, got, c.want)
		}
		if got := fix.IsFrom(c.x, c.s.Lo, c.s.Hi); got != c.want {
			t.Errorf("IsFrom(%d, %v): %v, want %v", c.x, c.s, got, c.want)
		}
	}
}
