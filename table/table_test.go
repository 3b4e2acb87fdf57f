package table_test

import (
	"math"
	"math/big"
	"math/rand"
	"slices"
	"testing"

	"fulmar/api"
	"fulmar/fix"
	"fulmar/table"
)

const worth = 1000000

// wrongPlaces: what may not be as places, and what is told of it.
func wrongPlaces() map[api.Errno][][]int {
	return map[api.Errno][][]int{
		api.ErrForm: {
			nil, {}, {0}, {worth + 1}, {math.MinInt},
			{5, 5}, {5, 4}, {1, 2, 2}, {1, 1, 2}, {1, 3, 2}, {3, 1, 2}, {-worth, 0, -worth}, {worth, worth},
			{1, 2, 3, 4, 5, 6, 7, 7}, {1, 2, 3, 4, 5, 6, 7, 6},
		},
		api.ErrLimit: {
			{1, 2, 3, 4, 5, 6, 7, 8, 9}, {9, 8, 7, 6, 5, 4, 3, 2, 1}, {1, 2, 3, 4, 5, 6, 7, 8, worth + 1},
			make([]int, 9), make([]int, 1000),
		},
		api.ErrRange: {
			{0, worth + 1}, {-worth - 1, 0}, {worth + 1, 0}, {0, -worth - 1}, {5, 5, worth + 1}, {5, 4, -worth - 1}, {-worth - 1, 7, 7},
			{0, math.MaxInt}, {math.MinInt, 0}, {math.MaxInt, math.MinInt}, {0, 1, 2, 3, 4, 5, 6, worth + 1}, {0, 1, worth + 1, 2},
		},
	}
}

func rightPlaces() [][]int {
	return [][]int{
		{0, 1}, {-worth, worth}, {worth - 1, worth}, {-worth, -worth + 1}, {-7, 0, 3},
		{1, 2, 3, 4, 5, 6, 7, 8}, {-worth, -5, -1, 0, 1, 9, 100, worth},
	}
}

// lines may be; of many shapes.
func lines() []api.Line {
	l := []api.Line{
		{At: []int{0, 10}, Is: []int{0, 5}},
		{At: []int{0, 2}, Is: []int{-1, -2}},
		{At: []int{0, 2}, Is: []int{-2, -1}},
		{At: []int{-4, 0, 4}, Is: []int{7, -7, 7}},
		{At: []int{-4, 0, 4}, Is: []int{3, 3, 3}},
		{At: []int{-worth, worth}, Is: []int{-worth, worth}},
		{At: []int{-worth, worth}, Is: []int{worth, -worth}},
		{At: []int{-worth, worth}, Is: []int{worth, worth}},
		{At: []int{-1, 0, 1}, Is: []int{-worth, worth, -worth}},
		{At: []int{-20, -19, -3, 0, 1, 5, 20, 50}, Is: []int{9, -9, 30, 0, 0, -worth, worth, 2}},
	}
	r := rand.New(rand.NewSource(2))
	for range 60 {
		many, at := 2+r.Intn(7), r.Intn(40)-40
		var line api.Line
		for range many {
			line.At = append(line.At, at)
			line.Is = append(line.Is, r.Intn(41)-20)
			at += 1 + r.Intn(9)
		}
		l = append(l, line)
	}
	return l
}

// heightAt works with fractions, and goes from point to point: a way of its own.
func heightAt(l api.Line, x int) int {
	last := len(l.At) - 1
	if x <= l.At[0] {
		return l.Is[0]
	}
	if x >= l.At[last] {
		return l.Is[last]
	}
	i := 0
	for l.At[i+1] < x {
		i++
	}
	slope := big.NewRat(int64(l.Is[i+1]-l.Is[i]), int64(l.At[i+1]-l.At[i]))
	h := slope.Mul(slope, big.NewRat(int64(x-l.At[i]), 1))
	return floorHalf(h.Add(h, big.NewRat(int64(l.Is[i]), 1)))
}

// floorHalf: the whole number at or below a half more than h.
func floorHalf(h *big.Rat) int {
	h.Add(h, big.NewRat(1, 2))
	// Div goes down on both sides of 0, since the lower number of a fraction is above 0.
	return int(new(big.Int).Div(h.Num(), h.Denom()).Int64())
}

// B1: Check of places.
func TestCheckPlaces(t *testing.T) {
	for want, all := range wrongPlaces() {
		for _, at := range all {
			l := api.Line{At: at, Is: make([]int, len(at))}
			if err := table.Check(l); err != error(want) {
				t.Errorf("Check(%v): %v, want %v", l, err, want)
			}
		}
	}
	for _, at := range rightPlaces() {
		l := api.Line{At: at, Is: make([]int, len(at))}
		if err := table.Check(l); err != nil {
			t.Errorf("Check(%v): %v", l, err)
		}
	}
}

// B1: Check of Is; the first thing that is wrong is told.
func TestCheckWorths(t *testing.T) {
	for _, c := range []struct {
		l    api.Line
		want error
	}{
		{api.Line{At: []int{0, 1}, Is: []int{-worth, worth}}, nil},
		{api.Line{At: []int{0, 1}, Is: []int{worth, -worth}}, nil},
		{api.Line{At: []int{0, 1}, Is: []int{worth + 1, 0}}, api.ErrRange},
		{api.Line{At: []int{0, 1}, Is: []int{0, worth + 1}}, api.ErrRange},
		{api.Line{At: []int{0, 1}, Is: []int{-worth - 1, 0}}, api.ErrRange},
		{api.Line{At: []int{0, 1}, Is: []int{0, -worth - 1}}, api.ErrRange},
		{api.Line{At: []int{0, 1, 2}, Is: []int{0, math.MaxInt, 0}}, api.ErrRange},
		{api.Line{At: []int{0, 1, 2}, Is: []int{0, math.MinInt, 0}}, api.ErrRange},
		{api.Line{At: []int{1, 1}, Is: []int{worth + 1, 0}}, api.ErrForm},
		{api.Line{At: []int{0, 1}, Is: []int{0}}, api.ErrForm},
		{api.Line{At: []int{0, 1}, Is: []int{0, 0, 0}}, api.ErrForm},
		{api.Line{At: []int{0, 1}}, api.ErrForm},
		{api.Line{Is: []int{0, 1}}, api.ErrForm},
		{api.Line{}, api.ErrForm},
		{api.Line{At: []int{0, worth + 1}, Is: []int{0}}, api.ErrForm},
		{api.Line{At: make([]int, 9), Is: make([]int, 8)}, api.ErrForm},
		{api.Line{At: make([]int, 9), Is: make([]int, 9)}, api.ErrLimit},
		{api.Line{At: make([]int, 8), Is: make([]int, 9)}, api.ErrForm},
	} {
		if err := table.Check(c.l); err != c.want {
			t.Errorf("Check(%v): %v, want %v", c.l, err, c.want)
		}
		checkRefused(t, c.l, c.want)
	}
}

// checkRefused: of a line that may not be Look and Over tell what Check tells, of any x and span, and Rises doesn't hold.
func checkRefused(t *testing.T, l api.Line, want error) {
	t.Helper()
	if want == nil {
		return
	}
	for _, x := range []int{0, 1, math.MinInt, math.MaxInt} {
		if y, err := table.Look(l, x); y != 0 || err != want {
			t.Errorf("Look(%v, %d): %d, %v, want %v", l, x, y, err, want)
		}
	}
	for _, s := range []api.Span{{Lo: 0, Hi: 1}, {Lo: 1, Hi: 0}} {
		if y, err := table.Over(l, s); y != (api.Span{}) || err != want {
			t.Errorf("Over(%v, %v): %v, %v, want %v", l, s, y, err, want)
		}
	}
	if table.Rises(l) {
		t.Errorf("Rises(%v), and it may not be", l)
	}
}

// B1: Look of what the document tells by hand, and of halves on both sides of 0.
func TestLookByHand(t *testing.T) {
	doc := api.Line{At: []int{0, 10}, Is: []int{0, 5}}
	low := api.Line{At: []int{0, 4}, Is: []int{-3, -5}}
	high := api.Line{At: []int{0, 4}, Is: []int{-5, -3}}
	through := api.Line{At: []int{0, 2, 4}, Is: []int{1, 0, -1}}
	for _, c := range []struct {
		l       api.Line
		x, want int
	}{
		{doc, 3, 2}, {doc, 1, 1}, {doc, 5, 3}, {doc, -7, 0}, {doc, 99, 5}, {doc, 0, 0}, {doc, 10, 5}, {doc, 2, 1}, {doc, 9, 5},
		{low, 1, -3}, {low, 2, -4}, {low, 3, -4}, {high, 1, -4}, {high, 2, -4}, {high, 3, -3},
		{through, 1, 1}, {through, 2, 0}, {through, 3, 0}, {through, 4, -1},
	} {
		if got, err := table.Look(c.l, c.x); got != c.want || err != nil {
			t.Errorf("Look(%v, %d): %d, %v, want %d", c.l, c.x, got, err, c.want)
		}
	}
}

// B1: Look against fractions.
func TestLook(t *testing.T) {
	far := []int{math.MinInt, -1 << 40, -worth - 1, -worth, -worth + 1, -333333, 333334, worth - 1, worth, worth + 1, 1 << 40, math.MaxInt}
	for _, l := range lines() {
		for x := -60; x <= 60; x++ {
			checkLook(t, l, x)
		}
		for _, x := range far {
			checkLook(t, l, x)
		}
		for i, x := range l.At {
			if got, err := table.Look(l, x); got != l.Is[i] || err != nil {
				t.Errorf("Look(%v, %d): %d, %v, want %d", l, x, got, err, l.Is[i])
			}
		}
	}
}

func checkLook(t *testing.T, l api.Line, x int) {
	t.Helper()
	if got, err := table.Look(l, x); got != heightAt(l, x) || err != nil {
		t.Errorf("Look(%v, %d): %d, %v, want %d", l, x, got, err, heightAt(l, x))
	}
}

// B1: Rises.
func TestRises(t *testing.T) {
	for _, c := range []struct {
		l    api.Line
		want bool
	}{
		{api.Line{At: []int{0, 1}, Is: []int{0, 1}}, true},
		{api.Line{At: []int{0, 1}, Is: []int{1, 1}}, true},
		{api.Line{At: []int{0, 1}, Is: []int{1, 0}}, false},
		{api.Line{At: []int{0, 1, 2, 3}, Is: []int{-5, -5, 0, 0}}, true},
		{api.Line{At: []int{0, 1, 2, 3}, Is: []int{-5, 3, 2, 9}}, false},
		{api.Line{At: []int{0, 1, 2}, Is: []int{0, 9, 8}}, false},
		{api.Line{At: []int{0, 1, 2}, Is: []int{1, 0, 8}}, false},
		{api.Line{At: []int{-worth, worth}, Is: []int{-worth, worth}}, true},
		{api.Line{}, false}, {api.Line{At: []int{0}, Is: []int{0}}, false},
		{api.Line{At: []int{0, 0}, Is: []int{0, 1}}, false},
		{api.Line{At: []int{0, 1}, Is: []int{0, worth + 1}}, false},
		{api.Line{At: []int{0, 1}, Is: []int{0, 1, 2}}, false},
		{api.Line{At: make([]int, 9), Is: make([]int, 9)}, false},
	} {
		if got := table.Rises(c.l); got != c.want {
			t.Errorf("Rises(%v): %v", c.l, got)
		}
	}
}

// B2: Over against trying all numbers of a span.
func TestOver(t *testing.T) {
	for _, l := range lines() {
		for lo := -50; lo <= 30; lo += 3 {
			for _, long := range []int{0, 1, 2, 5, 9, 16, 40} {
				checkOver(t, l, api.Span{Lo: lo, Hi: lo + long})
			}
		}
		for _, x := range l.At {
			checkOver(t, l, api.Span{Lo: x, Hi: x})
			checkOver(t, l, api.Span{Lo: x - 1, Hi: x})
			checkOver(t, l, api.Span{Lo: x, Hi: x + 1})
			checkOver(t, l, api.Span{Lo: x - 1, Hi: x + 1})
		}
	}
}

func checkOver(t *testing.T, l api.Line, s api.Span) {
	t.Helper()
	want := api.Span{Lo: math.MaxInt, Hi: math.MinInt}
	for x := s.Lo; x <= s.Hi; x++ {
		y := heightAt(l, x)
		want.Lo, want.Hi = min(want.Lo, y), max(want.Hi, y)
	}
	if got, err := table.Over(l, s); got != want || err != nil {
		t.Errorf("Over(%v, %v): %v, %v, want %v", l, s, got, err, want)
	}
}

// B2: spans too wide to try them all: all points are in them.
func TestOverWide(t *testing.T) {
	const most = 2147483647
	for _, l := range lines() {
		want := api.Span{Lo: slices.Min(l.Is), Hi: slices.Max(l.Is)}
		if got, err := table.Over(l, api.Span{Lo: -most, Hi: most}); got != want || err != nil {
			t.Errorf("Over(%v) of all: %v, %v, want %v", l, got, err, want)
		}
		for _, c := range []struct{ x, is int }{{-most, l.Is[0]}, {most, l.Is[len(l.Is)-1]}} {
			if got, err := table.Over(l, api.Span{Lo: c.x, Hi: c.x}); got != (api.Span{Lo: c.is, Hi: c.is}) || err != nil {
				t.Errorf("Over(%v) of %d: %v, %v", l, c.x, got, err)
			}
		}
	}
}

// B2: a span that may not be.
func TestOverWrongSpan(t *testing.T) {
	const most = 2147483647
	for _, s := range []api.Span{
		{Lo: 1, Hi: 0}, {Lo: -most - 1, Hi: 0}, {Lo: 0, Hi: most + 1}, {Lo: math.MinInt, Hi: math.MaxInt}, {Lo: math.MaxInt, Hi: math.MinInt},
	} {
		for _, l := range lines() {
			want := fix.Check(s)
			if got, err := table.Over(l, s); got != (api.Span{}) || err != want || err != error(api.ErrForm) {
				t.Errorf("Over(%v, %v): %v, %v, want %v", l, s, got, err, want)
			}
		}
		limit := api.Line{At: make([]int, 9), Is: make([]int, 9)}
		if got, err := table.Over(limit, s); got != (api.Span{}) || err != error(api.ErrLimit) {
			t.Errorf("Over(%v, %v): %v, %v", limit, s, got, err)
		}
	}
}

// Z2: no list of a line is written into, and what stands behind it isn't read.
func TestLineStays(t *testing.T) {
	for _, l := range lines() {
		at, is := slices.Clone(l.At), slices.Clone(l.Is)
		short := api.Line{At: append(slices.Clone(at), -9, worth+9)[:len(at)], Is: append(slices.Clone(is), worth+9, 0)[:len(is)]}
		for _, line := range []api.Line{l, short} {
			over, err := table.Over(line, api.Span{Lo: -30, Hi: 30})
			want, _ := table.Over(api.Line{At: at, Is: is}, api.Span{Lo: -30, Hi: 30})
			if over != want || err != nil || table.Check(line) != nil || table.Rises(line) != slices.IsSorted(is) {
				t.Errorf("Over(%v): %v, %v, want %v", line, over, err, want)
			}
			checkLook(t, line, 1<<40)
			if !slices.Equal(at, line.At) || !slices.Equal(is, line.Is) {
				t.Errorf("a list was written into: %v %v: %v", at, is, line)
			}
		}
	}
}
