package guard_test

import (
	"math"
	"math/rand"
	"testing"

	"fulmar/api"
	"fulmar/guard"
)

const (
	edge  = 100000
	noise = 1000
	push  = 2000
	most  = 4000
)

// usual: Brake(20) is 45, so that 2 * (3 + 45) = 96 is the least room.
func usual() guard.Rule { return guard.Rule{Lo: -100, Hi: 100, Noise: 3, Push: 5, Most: 20, Rate: 10} }

// wide: each number as great as it may be.
func wide() guard.Rule { return guard.Rule{-edge, edge, noise, push, most, most} }

// with a rule, changed.
func with(r guard.Rule, change func(*guard.Rule)) guard.Rule {
	change(&r)
	return r
}

// room: the usual rule from lo on, so wide.
func room(lo, wide int) guard.Rule {
	return with(usual(), func(r *guard.Rule) { r.Lo, r.Hi = lo, lo+wide })
}

// check what Check tells, and, if it is an error, that all tell it with nothing else, whatever else they are given.
func check(t *testing.T, r guard.Rule, want error) {
	t.Helper()
	if err := guard.Check(r); err != want {
		t.Errorf("Check(%v): %v, wanted %v", r, err, want)
	}
	if want == nil {
		return
	}
	for _, s := range []int{0, 1, -1, math.MaxInt, math.MinInt} {
		for _, x := range []int{0, math.MaxInt, math.MinInt} {
			checkNothing(t, r, x, s, want)
		}
	}
}

// checkNothing: nothing but an error comes of a rule and a move.
func checkNothing(t *testing.T, r guard.Rule, x, s int, want error) {
	t.Helper()
	if n, err := guard.Brake(r, s); n != 0 || err != want {
		t.Errorf("Brake(%v, %d): %d %v, wanted %v", r, s, n, err, want)
	}
	if b, err := guard.Bounds(r, x, s); b != (api.Span{}) || err != want {
		t.Errorf("Bounds(%v, %d, %d): %v %v, wanted %v", r, x, s, b, err, want)
	}
	for _, w := range []int{7, math.MaxInt, math.MinInt} {
		if n, err := guard.Clamp(r, x, s, w); n != 0 || err != want {
			t.Errorf("Clamp(%v, %d, %d, %d): %d %v, wanted %v", r, x, s, w, n, err, want)
		}
	}
}

// G1: rules that may be, at the edges of each number.
func TestRulesThatMayBe(t *testing.T) {
	for _, r := range []guard.Rule{
		usual(), wide(),
		room(-48, 96), room(-edge, 96), room(edge-96, 96), room(-edge, 2*edge), room(500, 96), room(-596, 96),
		{Lo: 0, Hi: 2, Most: 1, Rate: 1}, {Lo: -1, Hi: 1, Most: 1, Rate: 1}, {Lo: 0, Hi: 6, Push: 1, Most: 1, Rate: 1},
		{Lo: -edge, Hi: edge, Push: push, Most: push, Rate: push}, {Lo: -edge, Hi: edge, Push: 7, Most: 7, Rate: 7},
		{Lo: -edge, Hi: edge, Noise: noise, Most: most, Rate: 90}, {Lo: -edge, Hi: edge, Most: most, Rate: most},
	} {
		check(t, r, nil)
	}
}

// G1: numbers that may not be, each for itself; they are told ahead of what may not be so.
func TestNumbersOutOfRange(t *testing.T) {
	wrong := []func(*guard.Rule, int){
		func(r *guard.Rule, n int) { r.Lo = n },
		func(r *guard.Rule, n int) { r.Hi = n },
		func(r *guard.Rule, n int) { r.Noise = n },
		func(r *guard.Rule, n int) { r.Push = n },
		func(r *guard.Rule, n int) { r.Most, r.Rate = n, min(r.Rate, n) },
		func(r *guard.Rule, n int) { r.Rate = n },
	}
	numbers := [][]int{
		{-edge - 1, edge + 1}, {-edge - 1, edge + 1}, {-1, noise + 1}, {-1, push + 1}, {0, -1, most + 1}, {0, -1, 21},
	}
	for i, change := range wrong {
		for _, n := range append(numbers[i], math.MaxInt, math.MinInt) {
			check(t, with(usual(), func(r *guard.Rule) { change(r, n) }), api.ErrRange)
			check(t, with(room(0, -1), func(r *guard.Rule) { r.Push = 11; change(r, n) }), api.ErrRange)
		}
	}
	check(t, with(wide(), func(r *guard.Rule) { r.Noise++ }), api.ErrRange)
	check(t, with(wide(), func(r *guard.Rule) { r.Push++ }), api.ErrRange)
	check(t, with(wide(), func(r *guard.Rule) { r.Rate++ }), api.ErrRange)
	check(t, guard.Rule{}, api.ErrRange)
	check(t, guard.Rule{math.MinInt, math.MaxInt, math.MaxInt, math.MaxInt, math.MaxInt, math.MaxInt}, api.ErrRange)
	check(t, guard.Rule{math.MaxInt, math.MinInt, math.MinInt, math.MinInt, math.MinInt, math.MinInt}, api.ErrRange)
}

// G1: what may not be so: a gust that is stronger than the surfaces, or too little room.
func TestRulesThatMayNotBeSo(t *testing.T) {
	for _, r := range []guard.Rule{
		room(-48, 95), room(-47, 95), room(-edge, 95), room(edge-95, 95), room(0, 0), room(10, -1), room(edge, -2*edge),
		with(usual(), func(r *guard.Rule) { r.Push = 11 }),
		with(usual(), func(r *guard.Rule) { r.Push, r.Rate = 21, 20 }),
		with(usual(), func(r *guard.Rule) { r.Rate = 4 }),
		{Lo: 0, Hi: 1, Most: 1, Rate: 1}, {Lo: 0, Hi: 5, Push: 1, Most: 1, Rate: 1}, {Lo: -edge, Hi: edge, Push: 2, Most: 1, Rate: 1},
		{Lo: 0, Hi: 0, Most: 1, Rate: 1}, {Lo: -edge, Hi: edge, Most: most, Rate: 1}, {Lo: -edge, Hi: edge, Noise: noise, Most: most, Rate: 50},
	} {
		check(t, r, api.ErrForm)
	}
}

// way up, frame by frame, by G2's words.
func way(r guard.Rule, s int) int {
	sum := 0
	for ; s+r.Push > 0; s -= r.Rate {
		sum += s + r.Push
	}
	return sum
}

// G1: of all small rules: just those may be that have the room.
func TestRoom(t *testing.T) {
	for r := range smallRules {
		need := 2 * (r.Noise + way(r, r.Most))
		for _, wide := range []int{-1, 0, need - 1, need, need + 1} {
			r.Hi = r.Lo + wide
			want := error(nil)
			if r.Push > r.Most || r.Push > r.Rate || wide < need {
				want = api.ErrForm
			}
			if err := guard.Check(r); err != want {
				t.Fatalf("Check(%v): %v, wanted %v", r, err, want)
			}
		}
	}
}

// smallRules: all of them, each without any room.
func smallRules(yield func(guard.Rule) bool) {
	for most := 1; most <= 7; most++ {
		for rate := 1; rate <= most; rate++ {
			for push := 0; push <= most+1; push++ {
				for noise := 0; noise <= 2; noise++ {
					lo := 3*noise - 2*push
					if !yield(guard.Rule{Lo: lo, Hi: lo, Noise: noise, Push: push, Most: most, Rate: rate}) {
						return
					}
				}
			}
		}
	}
}

// G2: by hand.
func TestBrakeByHand(t *testing.T) {
	slow := guard.Rule{Lo: -edge, Hi: edge, Push: 1, Most: 300, Rate: 1}
	for _, c := range []struct {
		r       guard.Rule
		s, want int
	}{
		{usual(), 20, 45}, {usual(), 19, 24 + 14 + 4}, {usual(), 16, 21 + 11 + 1}, {usual(), 15, 20 + 10}, {usual(), 14, 19 + 9},
		{usual(), 10, 15 + 5}, {usual(), 6, 11 + 1}, {usual(), 5, 10}, {usual(), 0, 5}, {usual(), -1, 4}, {usual(), -4, 1},
		{usual(), -5, 0}, {usual(), -6, 0}, {usual(), -20, 0},
		{wide(), most, 6000 + 2000}, {wide(), 0, 2000}, {wide(), -most, 0}, {wide(), 2000, 4000}, {wide(), 2001, 4001 + 1},
		{slow, 300, 301 * 302 / 2}, {slow, 0, 1}, {slow, -1, 0}, {slow, -300, 0},
		{guard.Rule{Lo: -1, Hi: 1, Most: 1, Rate: 1}, 1, 1}, {guard.Rule{Lo: -1, Hi: 1, Most: 1, Rate: 1}, 0, 0},
	} {
		if n, err := guard.Brake(c.r, c.s); n != c.want || err != nil {
			t.Errorf("Brake(%v, %d): %d %v, wanted %d", c.r, c.s, n, err, c.want)
		}
	}
}

// G2, G3, G4: a move that may not be.
func TestMovesOutOfRange(t *testing.T) {
	for _, r := range []guard.Rule{usual(), wide(), {Lo: -1, Hi: 1, Most: 1, Rate: 1}} {
		for _, s := range []int{r.Most + 1, -r.Most - 1, math.MaxInt, math.MinInt} {
			for _, x := range []int{0, r.Lo, r.Hi, math.MaxInt, math.MinInt} {
				checkNothing(t, r, x, s, api.ErrRange)
			}
		}
	}
}

// drawn rule that may be, with little room, or much.
func drawn(d *rand.Rand) guard.Rule {
	for {
		r := guard.Rule{Noise: d.Intn(20), Push: d.Intn(30), Most: 1 + d.Intn(300)}
		r.Rate = 1 + d.Intn(r.Most)
		if r.Push > r.Rate {
			continue
		}
		wide := 2*(r.Noise+way(r, r.Most)) + d.Intn(2)*d.Intn(2000)
		if wide <= 2*edge {
			r.Lo = d.Intn(2*edge-wide+1) - edge
			r.Hi = r.Lo + wide
			return r
		}
	}
}

// G2: frame by frame, of drawn rules.
func TestBrakeFrameByFrame(t *testing.T) {
	d := rand.New(rand.NewSource(7))
	for range 500 {
		r := drawn(d)
		for s := -r.Most; s <= r.Most; s++ {
			if n, err := guard.Brake(r, s); n != way(r, s) || err != nil {
				t.Fatalf("Brake(%v, %d): %d %v, wanted %d", r, s, n, err, way(r, s))
			}
		}
	}
}

// G3: by hand, of the usual rule: seen at x it is at x and 3 at most.
func TestBoundsByHand(t *testing.T) {
	for _, c := range []struct {
		x, prev int
		want    api.Span
	}{
		// Away from the edges nothing is kept back.
		{0, 0, api.Span{Lo: -10, Hi: 10}}, {0, 7, api.Span{Lo: -3, Hi: 17}}, {0, 10, api.Span{Lo: 0, Hi: 20}},
		{0, 11, api.Span{Lo: 1, Hi: 20}}, {0, 20, api.Span{Lo: 10, Hi: 20}}, {0, -20, api.Span{Lo: -20, Hi: -10}}, {0, -15, api.Span{Lo: -20, Hi: -5}},
		// Brake(20) is 45, so that 52 is the last place where 20 may be; then it falls by 3, 2 or 1.
		{52, 20, api.Span{Lo: 10, Hi: 20}}, {53, 20, api.Span{Lo: 10, Hi: 19}}, {55, 20, api.Span{Lo: 10, Hi: 19}}, {56, 20, api.Span{Lo: 10, Hi: 18}},
		{-52, -20, api.Span{Lo: -20, Hi: -10}}, {-53, -20, api.Span{Lo: -19, Hi: -10}}, {-56, -20, api.Span{Lo: -18, Hi: -10}},
		// At 77 there is room for 20, which is Brake(10); at 92 for Brake(0); at 97 for nothing: it must go down by Push.
		{77, 10, api.Span{Lo: 0, Hi: 10}}, {78, 10, api.Span{Lo: 0, Hi: 9}}, {92, 0, api.Span{Lo: -10, Hi: 0}}, {93, 0, api.Span{Lo: -10, Hi: -1}},
		{97, 0, api.Span{Lo: -10, Hi: -5}}, {97, 5, api.Span{Lo: -5, Hi: -5}}, {98, 0, api.Span{Lo: -10, Hi: -10}},
		{-97, 0, api.Span{Lo: 5, Hi: 10}}, {-97, -5, api.Span{Lo: 5, Hi: 5}}, {-98, 0, api.Span{Lo: 10, Hi: 10}},
		// Where none stops, the one that does most against it.
		{97, 6, api.Span{Lo: -4, Hi: -4}}, {78, 20, api.Span{Lo: 10, Hi: 10}}, {-97, -6, api.Span{Lo: 4, Hi: 4}}, {-78, -20, api.Span{Lo: -10, Hi: -10}},
		{1000, -15, api.Span{Lo: -20, Hi: -20}}, {-1000, 15, api.Span{Lo: 20, Hi: 20}},
		{math.MaxInt, 0, api.Span{Lo: -10, Hi: -10}}, {math.MinInt, 0, api.Span{Lo: 10, Hi: 10}},
		{math.MaxInt, 20, api.Span{Lo: 10, Hi: 10}}, {math.MinInt, 20, api.Span{Lo: 20, Hi: 20}},
	} {
		if b, err := guard.Bounds(usual(), c.x, c.prev); b != c.want || err != nil {
			t.Errorf("Bounds at %d, moved by %d: %v %v, wanted %v", c.x, c.prev, b, err, c.want)
		}
	}
}

// told bounds: each move that can be is tried, by G3's words.
func told(r guard.Rule, x, prev int) api.Span {
	x = min(max(x, -2000000), 2000000)
	least, most := max(prev-r.Rate, -r.Most), min(prev+r.Rate, r.Most)
	b := api.Span{Lo: most, Hi: least}
	for s := least; s <= most; s++ {
		if x+r.Noise+way(r, s) <= r.Hi {
			b.Hi = s
		}
	}
	for s := most; s >= least; s-- {
		if x-r.Noise-way(r, -s) >= r.Lo {
			b.Lo = s
		}
	}
	return b
}

// checkMoves: Bounds and Clamp, seen at x, moved by prev.
func checkMoves(t *testing.T, r guard.Rule, x, prev int) {
	t.Helper()
	want := told(r, x, prev)
	if b, err := guard.Bounds(r, x, prev); b != want || err != nil || b.Lo > b.Hi {
		t.Fatalf("Bounds(%v, %d, %d): %v %v, wanted %v", r, x, prev, b, err, want)
	}
	for _, w := range []int{want.Lo - 1, want.Lo, (want.Lo + want.Hi) / 2, want.Hi, want.Hi + 1, 0, math.MaxInt, math.MinInt} {
		if n, err := guard.Clamp(r, x, prev, w); n != min(max(w, want.Lo), want.Hi) || err != nil {
			t.Fatalf("Clamp(%v, %d, %d, %d): %d %v, wanted it in %v", r, x, prev, w, n, err, want)
		}
	}
}

// G3, G4: all small rules that may be, with the least room and more, at all places and moves.
func TestSmallBounds(t *testing.T) {
	for r := range smallRules {
		for _, more := range []int{0, 1, 5} {
			r.Hi = r.Lo + 2*(r.Noise+way(r, r.Most)) + more
			if guard.Check(r) != nil {
				continue
			}
			for x := r.Lo - 3; x <= r.Hi+3; x++ {
				for prev := -r.Most; prev <= r.Most; prev++ {
					checkMoves(t, r, x, prev)
				}
			}
		}
	}
}

// G3, G4: drawn rules, near the edges.
func TestDrawnBounds(t *testing.T) {
	d := rand.New(rand.NewSource(77))
	for range 300 {
		r := drawn(d)
		for range 20 {
			near := d.Intn(2*way(r, r.Most)+50) - 25
			x := []int{r.Lo + near, r.Hi - near, math.MaxInt, math.MinInt, 2000001, -2000001}[d.Intn(30)%8%6]
			checkMoves(t, r, x, d.Intn(2*r.Most+1)-r.Most)
		}
	}
}

// G4: by hand.
func TestClampByHand(t *testing.T) {
	for _, c := range []struct{ x, prev, want, is int }{
		{0, 0, 4, 4}, {0, 0, 10, 10}, {0, 0, 11, 10}, {0, 0, -11, -10}, {0, 0, math.MaxInt, 10}, {0, 0, math.MinInt, -10},
		{56, 20, 20, 18}, {56, 20, 18, 18}, {56, 20, 0, 10}, {97, 5, 3, -5}, {97, 6, math.MinInt, -4}, {-97, -6, math.MinInt, 4},
	} {
		if n, err := guard.Clamp(usual(), c.x, c.prev, c.want); n != c.is || err != nil {
			t.Errorf("Clamp at %d, moved by %d, wanted %d: %d %v, should be %d", c.x, c.prev, c.want, n, err, c.is)
		}
	}
}

// G1 to G4 together: whatever is wanted, pushed and seen, a rule that may be keeps an axis in its envelope, from the middle and from the edges.
func TestItNeverLeavesItsEnvelope(t *testing.T) {
	d := rand.New(rand.NewSource(777))
	for range 400 {
		r := drawn(d)
		x, prev, lean := []int{r.Lo, r.Hi, (r.Lo + r.Hi) / 2}[d.Intn(3)], 0, 1-2*d.Intn(2)
		for range 150 {
			want, gust, off := lean*r.Most, lean*r.Push, -lean*r.Noise
			if d.Intn(4) == 0 {
				want, gust, off = d.Intn(2*r.Most+1)-r.Most, d.Intn(2*r.Push+1)-r.Push, d.Intn(2*r.Noise+1)-r.Noise
			}
			s, err := guard.Clamp(r, x+off, prev, want)
			if err != nil || s > prev+r.Rate || s < prev-r.Rate || s > r.Most || s < -r.Most {
				t.Fatalf("%v: at %d, moved by %d: %d %v", r, x, prev, s, err)
			}
			if x, prev = x+s+gust, s; x < r.Lo || x > r.Hi {
				t.Fatalf("%v: it is at %d", r, x)
			}
			if d.Intn(60) == 0 {
				lean = -lean
			}
		}
	}
}
