package act_test

import (
	"math"
	"testing"

	"fulmar/act"
	"fulmar/api"
)

const (
	travel  = 1000
	confirm = 10
)

// usual: a rule of which every number is another one.
func usual() act.Rule { return act.Rule{Travel: 100, Rate: 30, Slack: 5, Confirm: 3} }

// saw: the surface was seen there.
func saw(n int) api.Sample { return api.Sample{There: true, Is: n} }

// unseen: it wasn't seen, whatever number stands in the sample.
func unseen(n int) api.Sample { return api.Sample{Is: n} }

// E1: which rules may be.
func TestCheckRule(t *testing.T) {
	for _, r := range []act.Rule{
		usual(), {1, 1, 0, 1}, {1, 1, 1, confirm}, {travel, 1, 0, 1}, {travel, travel, travel, confirm}, {7, 7, 0, 2}, {7, 1, 7, 2},
	} {
		if err := act.CheckRule(r); err != nil {
			t.Errorf("CheckRule(%v): %v", r, err)
		}
	}
	for _, r := range wrongRules() {
		if err := act.CheckRule(r); err != api.ErrRange {
			t.Errorf("CheckRule(%v): %v", r, err)
		}
	}
}

func wrongRules() []act.Rule {
	l := []act.Rule{
		{}, {0, 0, 0, 1}, {0, 1, 0, 1}, {travel + 1, 1, 0, 1}, {-1, 1, 0, 1},
		{7, 0, 0, 1}, {7, 8, 0, 1}, {7, -1, 0, 1}, {7, 1, -1, 1}, {7, 1, 8, 1}, {7, 1, 0, 0}, {7, 1, 0, -1}, {7, 1, 0, confirm + 1},
	}
	for _, n := range []int{math.MaxInt, math.MinInt} {
		l = append(l, act.Rule{n, 1, 0, 1}, act.Rule{7, n, 0, 1}, act.Rule{7, 1, n, 1}, act.Rule{7, 1, 0, n}, act.Rule{n, n, n, n})
	}
	return l
}

// E1: which servos may be.
func TestCheck(t *testing.T) {
	for _, s := range []act.Servo{
		{}, {Is: 100}, {Is: -100}, {Is: 7, Bad: 2}, {Out: true}, {Bad: 1, Out: true}, {Bad: 2, Out: true}, {Bad: 3, Out: true},
	} {
		if err := act.Check(usual(), s); err != nil {
			t.Errorf("Check(%v): %v", s, err)
		}
	}
	for _, s := range wrongServos() {
		if err := act.Check(usual(), s); err != api.ErrForm {
			t.Errorf("Check(%v): %v", s, err)
		}
		for _, r := range wrongRules() {
			if err := act.Check(r, s); err != api.ErrRange {
				t.Errorf("Check(%v, %v): %v", r, s, err)
			}
		}
	}
	for _, r := range wrongRules() {
		if err := act.Check(r, act.Servo{}); err != api.ErrRange {
			t.Errorf("Check(%v, zero): %v", r, err)
		}
	}
}

// wrongServos of the usual rule.
func wrongServos() []act.Servo {
	l := []act.Servo{
		{Bad: 3}, {Is: 7, Bad: 3}, {Is: 1, Out: true}, {Is: -1, Bad: 3, Out: true}, {Is: 100, Bad: 2, Out: true},
	}
	for _, out := range []bool{false, true} {
		for _, n := range []int{101, -101, math.MaxInt, math.MinInt} {
			l = append(l, act.Servo{Is: n, Out: out})
		}
		for _, n := range []int{-1, 4, math.MaxInt, math.MinInt} {
			l = append(l, act.Servo{Bad: n, Out: out})
		}
	}
	return l
}

// E2, E3: Check's error, and nothing else with it.
func TestErrors(t *testing.T) {
	told := func(r act.Rule, s act.Servo, want error) {
		t.Helper()
		if a, err := act.Reach(r, s); a != (api.Span{}) || err != want {
			t.Errorf("Reach(%v, %v): %v %v, wanted %v", r, s, a, err, want)
		}
		if a, err := act.Move(r, s, 5); a != (act.Servo{}) || err != want {
			t.Errorf("Move(%v, %v): %v %v, wanted %v", r, s, a, err, want)
		}
		for _, seen := range []api.Sample{saw(s.Is), saw(50), unseen(0)} {
			if a, err := act.Watch(r, s, seen); a != (act.Servo{}) || err != want {
				t.Errorf("Watch(%v, %v, %v): %v %v, wanted %v", r, s, seen, a, err, want)
			}
		}
	}
	for _, r := range wrongRules() {
		told(r, act.Servo{Is: 1}, api.ErrRange)
		told(r, act.Servo{Is: 2000, Bad: -1, Out: true}, api.ErrRange)
	}
	for _, s := range wrongServos() {
		told(usual(), s, api.ErrForm)
	}
}

// E2: by hand: a frame's way, cut off at the ends of the travel; none for one that is out.
func TestReach(t *testing.T) {
	for _, c := range []struct {
		s      act.Servo
		lo, hi int
	}{
		{act.Servo{}, -30, 30},
		{act.Servo{Is: 50, Bad: 2}, 20, 80},
		{act.Servo{Is: 70}, 40, 100},
		{act.Servo{Is: 71}, 41, 100},
		{act.Servo{Is: 100}, 70, 100},
		{act.Servo{Is: -70}, -100, -40},
		{act.Servo{Is: -71}, -100, -41},
		{act.Servo{Is: -100}, -100, -70},
		{act.Servo{Out: true}, 0, 0},
		{act.Servo{Bad: 3, Out: true}, 0, 0},
	} {
		if a, err := act.Reach(usual(), c.s); a != (api.Span{Lo: c.lo, Hi: c.hi}) || err != nil {
			t.Errorf("Reach(%v): %v %v, wanted %d to %d", c.s, a, err, c.lo, c.hi)
		}
	}
}

// E2: by hand: it goes there, or as near as it can; nothing else of it changes.
func TestMove(t *testing.T) {
	for _, c := range []struct {
		s      act.Servo
		to, is int
	}{
		{act.Servo{}, 12, 12},
		{act.Servo{Bad: 2}, 30, 30},
		{act.Servo{Bad: 2}, 31, 30},
		{act.Servo{}, -30, -30},
		{act.Servo{}, -31, -30},
		{act.Servo{Is: 90}, 101, 100},
		{act.Servo{Is: 90}, math.MaxInt, 100},
		{act.Servo{Is: 90}, math.MinInt, 60},
		{act.Servo{Is: -90}, math.MinInt, -100},
		{act.Servo{Is: -90, Bad: 1}, -90, -90},
		{act.Servo{Out: true}, 20, 0},
		{act.Servo{Bad: 3, Out: true}, math.MinInt, 0},
	} {
		want := c.s
		want.Is = c.is
		if a, err := act.Move(usual(), c.s, c.to); a != want || err != nil {
			t.Errorf("Move(%v, %d): %v %v, wanted %v", c.s, c.to, a, err, want)
		}
	}
}

// E3: by hand: exactly Slack away is fine, one more isn't, nor is one that isn't seen.
func TestWatch(t *testing.T) {
	far := []api.Sample{saw(46), saw(34), saw(math.MaxInt), saw(math.MinInt), saw(-40), unseen(40), unseen(0), unseen(math.MaxInt)}
	near := []api.Sample{saw(40), saw(45), saw(35), saw(41)}
	told := func(s act.Servo, seen api.Sample, want act.Servo) {
		t.Helper()
		if a, err := act.Watch(usual(), s, seen); a != want || err != nil {
			t.Errorf("Watch(%v, %v): %v %v, wanted %v", s, seen, a, err, want)
		}
	}
	for _, seen := range near {
		for bad := range 3 {
			told(act.Servo{Is: 40, Bad: bad}, seen, act.Servo{Is: 40, Bad: bad})
		}
	}
	for _, seen := range far {
		told(act.Servo{Is: 40}, seen, act.Servo{Is: 40, Bad: 1})
		told(act.Servo{Is: 40, Bad: 1}, seen, act.Servo{Is: 40, Bad: 2})
		told(act.Servo{Is: 40, Bad: 2}, seen, act.Servo{Bad: 3, Out: true})
	}
	for _, seen := range append(near, far...) {
		for bad := range 4 {
			told(act.Servo{Bad: bad, Out: true}, seen, act.Servo{Bad: bad, Out: true})
		}
	}
}

// E3: without slack only the very place is fine; at the ends of the travel what is seen may lie beyond them.
func TestWatchAtTheEdges(t *testing.T) {
	for _, c := range []struct {
		slack, is, seen, bad int
	}{
		{0, 7, 7, 0}, {0, 7, 8, 1}, {0, 7, 6, 1}, {travel, 0, travel, 0}, {travel, 0, -travel, 0}, {travel, 0, travel + 1, 1},
		{travel, travel, 2 * travel, 0}, {travel, travel, 2*travel + 1, 1}, {travel, -travel, -2 * travel, 0}, {travel, -travel, -2*travel - 1, 1},
	} {
		r := act.Rule{Travel: travel, Rate: 1, Slack: c.slack, Confirm: 2}
		want := act.Servo{Is: c.is, Bad: c.bad}
		if a, err := act.Watch(r, act.Servo{Is: c.is}, saw(c.seen)); a != want || err != nil {
			t.Errorf("Watch, slack %d, at %d, seen at %d: %v %v, wanted %v", c.slack, c.is, c.seen, a, err, want)
		}
	}
}

// E3: frames are counted, not frames in a row: at the one that makes Confirm of them it is out.
func TestWatchCounts(t *testing.T) {
	for sure := 1; sure <= confirm; sure++ {
		r := act.Rule{Travel: 50, Rate: 50, Slack: 2, Confirm: sure}
		s := act.Servo{Is: 20}
		for n := 1; n <= sure; n++ {
			s = watched(t, r, s, saw(20))
			s = watched(t, r, s, saw(23))
			if s.Out != (n == sure) || s.Bad != n {
				t.Fatalf("Confirm %d: after %d frames: %v", sure, n, s)
			}
		}
		if want := (act.Servo{Bad: sure, Out: true}); s != want || watched(t, r, s, saw(0)) != want {
			t.Errorf("Confirm %d: %v, wanted %v, and that it stays", sure, s, want)
		}
	}
}

func watched(t *testing.T, r act.Rule, s act.Servo, seen api.Sample) act.Servo {
	t.Helper()
	next, err := act.Watch(r, s, seen)
	if err != nil {
		t.Fatalf("Watch(%v, %v, %v): %v", r, s, seen, err)
	}
	return next
}

// E1 to E3: all small rules and servos, against the promises' words.
func TestAllSmall(t *testing.T) {
	eachSmall(func(r act.Rule, s act.Servo) {
		want := servoError(r, s)
		if err := act.Check(r, s); err != want {
			t.Fatalf("Check(%v, %v): %v, wanted %v", r, s, err, want)
		}
		if want == nil {
			compareReach(t, r, s)
			compareWatch(t, r, s)
		}
	})
}

func eachSmall(do func(r act.Rule, s act.Servo)) {
	for n := range 5 * 6 * 6 * 5 {
		r := act.Rule{Travel: n%5 - 1, Rate: n/5%6 - 1, Slack: n/30%6 - 1, Confirm: n/180 - 1}
		for m := range 11 * 7 * 2 {
			do(r, act.Servo{Is: m%11 - 5, Bad: m/11%7 - 1, Out: m/77 == 1})
		}
	}
}

func servoError(r act.Rule, s act.Servo) error {
	switch {
	case r.Travel < 1, r.Rate < 1, r.Rate > r.Travel, r.Slack < 0, r.Slack > r.Travel, r.Confirm < 1:
		return api.ErrRange
	case s.Is > r.Travel, s.Is < -r.Travel, s.Bad < 0, s.Bad > r.Confirm:
		return api.ErrForm
	case s.Out && s.Is != 0, !s.Out && s.Bad == r.Confirm:
		return api.ErrForm
	}
	return nil
}

// compareReach: a place is in it exactly if the surface can be there; and it moves to the nearest of these.
func compareReach(t *testing.T, r act.Rule, s act.Servo) {
	t.Helper()
	reach, err := act.Reach(r, s)
	if err != nil {
		t.Fatalf("Reach(%v, %v): %v", r, s, err)
	}
	can := func(x int) bool {
		if s.Out {
			return x == 0
		}
		return distance(x, s.Is) <= r.Rate && distance(x, 0) <= r.Travel
	}
	for x := -12; x <= 12; x++ {
		if in := reach.Lo <= x && x <= reach.Hi; in != can(x) {
			t.Fatalf("Reach(%v, %v): %v, at %d", r, s, reach, x)
		}
		next, err := act.Move(r, s, x)
		nearest := 0
		for y := -12; y <= 12; y++ {
			if can(y) && (!can(nearest) || distance(x, y) < distance(x, nearest)) {
				nearest = y
			}
		}
		if want := (act.Servo{Is: nearest, Bad: s.Bad, Out: s.Out}); next != want || err != nil {
			t.Fatalf("Move(%v, %v, %d): %v %v, wanted %v", r, s, x, next, err, want)
		}
		if err := act.Check(r, next); err != nil {
			t.Fatalf("Move(%v, %v, %d): %v, which may not be", r, s, x, next)
		}
	}
}

func compareWatch(t *testing.T, r act.Rule, s act.Servo) {
	t.Helper()
	for x := -12; x <= 12; x++ {
		for _, seen := range []api.Sample{saw(x), unseen(x)} {
			want := s
			if !s.Out && (!seen.There || distance(x, s.Is) > r.Slack) {
				want.Bad++
			}
			if !s.Out && want.Bad == r.Confirm {
				want = act.Servo{Bad: want.Bad, Out: true}
			}
			next, err := act.Watch(r, s, seen)
			if next != want || err != nil {
				t.Fatalf("Watch(%v, %v, %v): %v %v, wanted %v", r, s, seen, next, err, want)
			}
			if err := act.Check(r, next); err != nil {
				t.Fatalf("Watch(%v, %v, %v): %v, which may not be", r, s, seen, next)
			}
		}
	}
}

func distance(a, b int) int { return max(a-b, b-a) }

// E1: sound is who isn't out, whatever else is said of it.
func TestSound(t *testing.T) {
	for _, k := range []struct {
		l    []act.Servo
		want int
	}{
		{nil, 0}, {[]act.Servo{{}}, 1}, {[]act.Servo{{Out: true}}, 0}, {[]act.Servo{{Bad: 2}, {Out: true}, {Is: 7}, {Bad: 3, Out: true}}, 2},
	} {
		if got := act.Sound(k.l); got != k.want {
			t.Errorf("Sound(%v): %d", k.l, got)
		}
	}
}
