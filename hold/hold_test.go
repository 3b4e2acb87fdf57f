package hold_test

import (
	"math"
	"math/rand"
	"slices"
	"testing"

	"fulmar/api"
	"fulmar/hold"
)

const (
	edge  = 100000
	turn  = 1000
	gain  = 65536
	most  = 4000
	worth = 1000000
)

const (
	normal = iota
	alternate
	direct
	backup
)

// usual: at speed 0 a gain of 1, at 10 of a half.
func usual() hold.Rule {
	return hold.Rule{
		Span: api.Span{Lo: -300, Hi: 400}, Turn: 50, Build: 64, Most: 90,
		Gain: api.Line{At: []int{0, 10}, Is: []int{256, 128}},
	}
}

// flat: a rule with one gain at all speeds.
func flat(r hold.Rule, gain int) hold.Rule {
	r.Gain = api.Line{At: []int{0, 1}, Is: []int{gain, gain}}
	return r
}

// great: each number as great as it may be.
func great() hold.Rule {
	return flat(hold.Rule{Span: api.Span{Lo: -edge, Hi: edge}, Turn: turn, Build: gain, Most: most}, gain)
}

func with(r hold.Rule, change func(*hold.Rule)) hold.Rule {
	change(&r)
	return r
}

// check what Check tells, and, if it is an error, that all tell it with nothing else, whatever else they are given.
func check(t *testing.T, r hold.Rule, want error) {
	t.Helper()
	if err := hold.Check(r); err != want {
		t.Errorf("Check(%v): %v, wanted %v", r, err, want)
	}
	if want == nil {
		return
	}
	wild := hold.State{Aim: math.MinInt, Held: math.MaxInt, Law: -1}
	for _, s := range []hold.State{{}, wild} {
		for _, a := range []hold.Ask{{}, {Stick: 101, Law: 9, Prev: math.MinInt}} {
			nothing(t, r, s, a, want)
		}
	}
}

// nothing but an error comes of Want and of Told.
func nothing(t *testing.T, r hold.Rule, s hold.State, a hold.Ask, want error) {
	t.Helper()
	if n, next, err := hold.Want(r, s, a); n != 0 || next != (hold.State{}) || err != want {
		t.Errorf("Want(%v, %v, %v): %d %v %v, wanted %v", r, s, a, n, next, err, want)
	}
	if next, err := hold.Told(r, s, a, 5, 5); next != (hold.State{}) || err != want {
		t.Errorf("Told(%v, %v, %v): %v %v, wanted %v", r, s, a, next, err, want)
	}
}

// I1: rules that may be, at the edges of each number.
func TestRulesThatMayBe(t *testing.T) {
	for _, r := range []hold.Rule{
		usual(), great(), flat(hold.Rule{Most: 1}, 0),
		with(usual(), func(r *hold.Rule) { r.Lo, r.Hi = edge, edge }),
		with(usual(), func(r *hold.Rule) { r.Lo, r.Hi = -edge, -edge }),
		with(usual(), func(r *hold.Rule) { r.Lo, r.Hi = 5, 5 }),
		with(usual(), func(r *hold.Rule) { r.Gain.Is = []int{0, gain} }),
		with(usual(), func(r *hold.Rule) { r.Gain.Is = []int{gain, 0} }),
	} {
		check(t, r, nil)
	}
}

// I1: numbers that may not be, each for itself; they are told ahead of what may not be so, and of the gain.
func TestNumbersOutOfRange(t *testing.T) {
	for _, c := range []struct {
		change func(*hold.Rule, int)
		wrong  []int
	}{
		{func(r *hold.Rule, n int) { r.Lo = n }, []int{-edge - 1, edge + 1}},
		{func(r *hold.Rule, n int) { r.Hi = n }, []int{-edge - 1, edge + 1}},
		{func(r *hold.Rule, n int) { r.Turn = n }, []int{-1, turn + 1}},
		{func(r *hold.Rule, n int) { r.Build = n }, []int{-1, gain + 1}},
		{func(r *hold.Rule, n int) { r.Most = n }, []int{0, -1, most + 1}},
	} {
		for _, n := range append(c.wrong, math.MaxInt, math.MinInt) {
			check(t, with(usual(), func(r *hold.Rule) { c.change(r, n) }), api.ErrRange)
			check(t, with(great(), func(r *hold.Rule) { c.change(r, n) }), api.ErrRange)
			check(t, with(usual(), func(r *hold.Rule) { r.Lo, r.Hi = 2, 1; r.Gain.At = nil; c.change(r, n) }), api.ErrRange)
		}
	}
	check(t, hold.Rule{}, api.ErrRange)
}

// I1: Lo above Hi is told ahead of the gain; the line of gains by what package table says of it; then what is no gain.
func TestRulesThatMayNotBeSo(t *testing.T) {
	upside := func(r *hold.Rule) { r.Lo, r.Hi = 1, 0 }
	check(t, with(usual(), upside), api.ErrForm)
	check(t, with(usual(), func(r *hold.Rule) { r.Lo, r.Hi = edge, -edge }), api.ErrForm)
	check(t, with(flat(usual(), -1), upside), api.ErrForm)
	check(t, with(flat(usual(), worth+1), upside), api.ErrForm)

	long := slices.Repeat([]int{1}, 9)
	for _, c := range []struct {
		line api.Line
		want error
	}{
		{api.Line{}, api.ErrForm},
		{api.Line{At: []int{0}, Is: []int{1}}, api.ErrForm},
		{api.Line{At: []int{0, 1}, Is: []int{1}}, api.ErrForm},
		{api.Line{At: []int{0}, Is: []int{1, -1}}, api.ErrForm},
		{api.Line{At: []int{1, 1}, Is: []int{1, -1}}, api.ErrForm},
		{api.Line{At: []int{2, 1}, Is: []int{gain + 1, 1}}, api.ErrForm},
		{api.Line{At: []int{0, 1, 2, 3, 4, 5, 6, 7, 8}, Is: long}, api.ErrLimit},
		{api.Line{At: []int{0, worth + 1}, Is: []int{1, 1}}, api.ErrRange},
		{api.Line{At: []int{0, 1}, Is: []int{1, worth + 1}}, api.ErrRange},
		{api.Line{At: []int{0, 1}, Is: []int{-1, 0}}, api.ErrRange},
		{api.Line{At: []int{0, 1}, Is: []int{0, -1}}, api.ErrRange},
		{api.Line{At: []int{0, 1}, Is: []int{gain + 1, 0}}, api.ErrRange},
		{api.Line{At: []int{0, 1, 2}, Is: []int{0, gain + 1, gain}}, api.ErrRange},
		{api.Line{At: []int{0, 1}, Is: []int{math.MinInt, math.MaxInt}}, api.ErrRange},
	} {
		check(t, with(usual(), func(r *hold.Rule) { r.Gain = c.line }), c.want)
	}
}

// I1: what a state and an ask may be, at the edges of each number.
func TestStatesAndAsksThatMayBe(t *testing.T) {
	for _, s := range []hold.State{{}, {Aim: -300, Held: -90, Law: 0}, {Aim: 400, Held: 90, Law: 3}, {Law: 1}, {Law: 2}} {
		for _, a := range []hold.Ask{
			{}, {Stick: -100, Prev: -90, Law: 3}, {Stick: 100, Prev: 90, Law: 2}, {Law: 1},
			{Is: math.MaxInt, Speed: math.MaxInt}, {Is: math.MinInt, Speed: math.MinInt, Law: 1},
		} {
			if _, _, err := hold.Want(usual(), s, a); err != nil {
				t.Errorf("Want of %v, %v: %v", s, a, err)
			}
			if _, err := hold.Told(usual(), s, a, math.MaxInt, math.MinInt); err != nil {
				t.Errorf("Told of %v, %v: %v", s, a, err)
			}
		}
	}
}

// I1: a state that may not be so is told ahead of an ask that is out of range.
func TestStatesAndAsksThatMayNotBe(t *testing.T) {
	r := usual()
	states := []hold.State{
		{Aim: -301}, {Aim: 401}, {Aim: math.MinInt}, {Aim: math.MaxInt},
		{Held: -91}, {Held: 91}, {Held: math.MinInt}, {Held: math.MaxInt},
		{Law: -1}, {Law: 4}, {Law: math.MinInt}, {Law: math.MaxInt},
	}
	asks := []hold.Ask{
		{Stick: -101}, {Stick: 101}, {Stick: math.MinInt}, {Stick: math.MaxInt},
		{Law: -1}, {Law: 4}, {Law: math.MinInt}, {Law: math.MaxInt},
		{Prev: -91}, {Prev: 91}, {Prev: math.MinInt}, {Prev: math.MaxInt},
	}
	for _, s := range states {
		nothing(t, r, s, hold.Ask{}, api.ErrForm)
		for l := range 4 {
			nothing(t, r, s, hold.Ask{Law: l}, api.ErrForm)
		}
		for _, a := range asks {
			nothing(t, r, s, a, api.ErrForm)
		}
	}
	for _, a := range asks {
		nothing(t, r, hold.State{}, a, api.ErrRange)
		nothing(t, r, hold.State{Law: direct}, a, api.ErrRange)
	}
	for l := direct; l <= backup; l++ {
		nothing(t, r, hold.State{}, hold.Ask{Stick: 101, Law: l}, api.ErrRange)
		nothing(t, r, hold.State{}, hold.Ask{Prev: 91, Law: l}, api.ErrRange)
	}
	away := with(usual(), func(r *hold.Rule) { r.Lo, r.Hi = 5, 9 })
	nothing(t, away, hold.State{}, hold.Ask{}, api.ErrForm)
}

// want: what is wanted, and the state behind it.
func want(t *testing.T, r hold.Rule, s hold.State, a hold.Ask, move int, next hold.State) {
	t.Helper()
	if n, got, err := hold.Want(r, s, a); n != move || got != next || err != nil {
		t.Errorf("Want(%v, %v, %v): %d %v %v, wanted %d %v", r, s, a, n, got, err, move, next)
	}
}

// I2: the direct law moves by the stick alone, the backup law not at all; of the state the law alone changes.
func TestDirectAndBackup(t *testing.T) {
	r := usual()
	for l := range 4 {
		s := hold.State{Aim: 33, Held: -17, Law: l}
		for stick, move := range map[int]int{0: 0, 100: 90, -100: -90, 50: 45, 99: 89, -99: -89, 1: 0, -1: 0, 2: 1, -2: -1} {
			ask := hold.Ask{Stick: stick, Is: math.MaxInt, Speed: 7, Prev: 90}
			ask.Law = direct
			want(t, r, s, ask, move, hold.State{Aim: 33, Held: -17, Law: direct})
			ask.Law = backup
			want(t, r, s, ask, 0, hold.State{Aim: 33, Held: -17, Law: backup})
		}
	}
	want(t, great(), hold.State{}, hold.Ask{Stick: -100, Law: direct}, -most, hold.State{Law: direct})
}

// I2: under a law that goes on the stick turns the aim, the gain at that speed pulls to it, and what is held comes besides.
func TestLawThatGoesOn(t *testing.T) {
	r := usual()
	for l := normal; l <= alternate; l++ {
		for _, c := range []struct {
			s    hold.State
			a    hold.Ask
			move int
			next hold.State
		}{
			{hold.State{}, hold.Ask{}, 0, hold.State{}},
			{hold.State{}, hold.Ask{Stick: 100}, 50, hold.State{Aim: 50}},
			{hold.State{}, hold.Ask{Stick: -100}, -50, hold.State{Aim: -50}},
			{hold.State{}, hold.Ask{Stick: 3}, 1, hold.State{Aim: 1}},
			{hold.State{}, hold.Ask{Stick: -3}, -1, hold.State{Aim: -1}},
			{hold.State{}, hold.Ask{Stick: 1}, 0, hold.State{}},
			{hold.State{}, hold.Ask{Stick: 100, Speed: 10}, 25, hold.State{Aim: 50}},
			{hold.State{}, hold.Ask{Stick: 100, Speed: 99}, 25, hold.State{Aim: 50}},
			{hold.State{}, hold.Ask{Stick: 100, Speed: 5}, 38, hold.State{Aim: 50}}, // 192 / 256 of 50 is 37.5
			{hold.State{}, hold.Ask{Stick: 100, Is: 40}, 10, hold.State{Aim: 50}},
			{hold.State{Aim: 50, Held: 7}, hold.Ask{Is: 40}, 17, hold.State{Aim: 50, Held: 7}},
			{hold.State{Aim: 50, Held: -7}, hold.Ask{Is: 60}, -17, hold.State{Aim: 50, Held: -7}},
			{hold.State{Held: 80}, hold.Ask{Is: -20}, 90, hold.State{Held: 80}},
			{hold.State{Held: -80}, hold.Ask{Is: 20}, -90, hold.State{Held: -80}},
			{hold.State{Held: 90}, hold.Ask{Is: 500}, -90, hold.State{Held: 90}},
			{hold.State{Aim: 400}, hold.Ask{Stick: 100, Is: 399}, 1, hold.State{Aim: 400}},
			{hold.State{Aim: 380}, hold.Ask{Stick: 100, Is: 399}, 1, hold.State{Aim: 400}},
			{hold.State{Aim: -280}, hold.Ask{Stick: -100, Is: -299}, -1, hold.State{Aim: -300}},
			{hold.State{Held: 3}, hold.Ask{Prev: -90}, 3, hold.State{Held: 3}},
			{hold.State{Aim: 9}, hold.Ask{Is: math.MaxInt}, -90, hold.State{Aim: 9}},
			{hold.State{Aim: 9}, hold.Ask{Is: math.MinInt}, 90, hold.State{Aim: 9}},
		} {
			c.s.Law, c.a.Law, c.next.Law = l, l, l
			want(t, r, c.s, c.a, c.move, c.next)
		}
	}
}

// I2: under a law that is new, from any other one, the aim starts where the axis is, and what is wanted is what was done last.
func TestLawThatIsNew(t *testing.T) {
	r := usual()
	for was := range 4 {
		for l := normal; l <= alternate; l++ {
			if was == l {
				continue
			}
			s := hold.State{Aim: 222, Held: -55, Law: was}
			for _, c := range []struct {
				a               hold.Ask
				move, aim, held int
			}{
				{hold.Ask{}, 0, 0, 0},
				{hold.Ask{Is: 100, Prev: 33}, 33, 100, 33},
				{hold.Ask{Is: 100, Prev: -90}, -90, 100, -90},
				{hold.Ask{Is: 100, Prev: 33, Stick: 100}, 33, 150, -17},
				{hold.Ask{Is: 100, Prev: 33, Stick: -100, Speed: 10}, 33, 50, 58},
				{hold.Ask{Is: 100, Prev: 70, Stick: -100}, 40, 50, 90}, // 120 can't be held
				{hold.Ask{Is: 100, Prev: -70, Stick: 100}, -40, 150, -90},
				{hold.Ask{Is: 500, Prev: 20}, -10, 400, 90}, // it pulls by -100, which can't be made up for
				{hold.Ask{Is: 460, Prev: 20}, 20, 400, 80},
				{hold.Ask{Is: -360, Prev: -20}, -20, -300, -80},
				{hold.Ask{Is: 500, Prev: 20, Stick: -100, Speed: 10}, 15, 350, 90},
				{hold.Ask{Is: math.MaxInt, Prev: 90}, -90, 400, 90},
				{hold.Ask{Is: math.MinInt, Prev: 90}, 90, -300, -90},
			} {
				c.a.Law = l
				want(t, r, s, c.a, c.move, hold.State{Aim: c.aim, Held: c.held, Law: l})
			}
		}
	}
}

// I2, I3: the pull clips where the axis is ahead of the difference, and the difference besides.
func TestPullIsClipped(t *testing.T) {
	r := flat(with(great(), func(r *hold.Rule) { r.Build = 1 }), 1) // 1 / 256
	for _, c := range []struct{ aim, is, pull int }{
		{0, -512000, 2000}, {0, 512000, -2000}, {edge, -900000, 3906}, {edge, -900001, 3906},
		{edge, -1000000, 3906}, {-edge, 1000000, -3906}, {edge, -worth - 1, 3906},
		{edge, -2 * worth, 3906}, {edge, -2*worth - 1, 3906}, {-edge, math.MaxInt, -3906}, {edge, math.MinInt, 3906},
		{-edge, -899999, 3125}, {edge, 899999, -3125}, {edge, 1100000, -3906}, {edge, 1099999, -3906},
		{edge, math.MaxInt, -3906}, {-edge, math.MinInt, 3906}, {0, 128, -1}, {0, 127, 0}, {0, -128, 1}, {0, -127, 0},
	} {
		s, a := hold.State{Aim: c.aim}, hold.Ask{Is: c.is}
		want(t, r, s, a, c.pull, s)
		told(t, r, s, a, 7, 7, hold.State{Aim: c.aim, Held: c.pull})
	}
	for _, is := range []int{math.MinInt, -edge - 1, edge + 1, math.MaxInt} {
		move := most
		if is > 0 {
			move = -most
		}
		want(t, great(), hold.State{}, hold.Ask{Is: is}, move, hold.State{})
		told(t, great(), hold.State{}, hold.Ask{Is: is}, 0, 0, hold.State{Held: move})
	}
}

// told: the state behind what came of what was wanted.
func told(t *testing.T, r hold.Rule, s hold.State, a hold.Ask, move, got int, next hold.State) {
	t.Helper()
	if n, err := hold.Told(r, s, a, move, got); n != next || err != nil {
		t.Errorf("Told(%v, %v, %v, %d, %d): %v %v, wanted %v", r, s, a, move, got, n, err, next)
	}
}

// I3: what is held builds under the normal law, where all that was wanted was done, whatever law the state has.
func TestTold(t *testing.T) {
	r := usual() // Build is a quarter
	for l := range 4 {
		for _, c := range []struct{ held, is, next int }{
			{0, 0, 25}, {10, 0, 35}, {10, 100, 10}, {10, 140, 0}, {10, 101, 10}, {10, 102, 9}, {10, 98, 11}, {10, 99, 10},
			{80, 0, 90}, {-80, 200, -90}, {90, 0, 90}, {-90, 0, -65}, {0, math.MaxInt, -90}, {0, math.MinInt, 90},
		} {
			s := hold.State{Aim: 100, Held: c.held, Law: l}
			a := hold.Ask{Is: c.is, Stick: 100, Speed: 7, Prev: 44}
			for _, done := range []int{0, 12, -90, math.MaxInt, math.MinInt} {
				told(t, r, s, a, done, done, hold.State{Aim: 100, Held: c.next, Law: l})
			}
		}
	}
}

// I3: nothing builds under another law, nor where it was kept back.
func TestToldThatChangesNothing(t *testing.T) {
	r := usual()
	for was := range 4 {
		s := hold.State{Aim: 100, Held: 10, Law: was}
		for l := range 4 {
			a := hold.Ask{Is: 0, Law: l}
			told(t, r, s, a, 12, 11, s)
			told(t, r, s, a, 11, 12, s)
			told(t, r, s, a, 12, -12, s)
			told(t, r, s, a, math.MaxInt, math.MinInt, s)
			if l != normal {
				told(t, r, s, a, 12, 12, s)
			}
		}
	}
}

// clip, and pull, by the words of the chapter, apart from the program's.
func clip(x, lo, hi int) int { return min(max(x, lo), hi) }

// mul a by b in 256ths, as chapter 1 says it: nearest, of two as near the one further from 0.
func mul(a, b int) int {
	p := 2*a*b + 256
	if a*b < 0 {
		p = 2*a*b - 256
	}
	return clip(p/512, -api.Most, api.Most)
}

func pull(aim, is, gain int) int {
	return mul(gain, clip(aim-clip(is, -2*worth, 2*worth), -worth, worth))
}

// oracle: I2, of a rule with one gain, sentence by sentence.
func oracle(r hold.Rule, s hold.State, a hold.Ask) (int, hold.State) {
	was := s.Law
	s.Law = a.Law
	switch a.Law {
	case direct:
		return a.Stick * r.Most / 100, s
	case backup:
		return 0, s
	}
	if was != a.Law {
		s.Aim = clip(a.Is, r.Lo, r.Hi)
	}
	s.Aim = clip(s.Aim+a.Stick*r.Turn/100, r.Lo, r.Hi)
	p := pull(s.Aim, a.Is, r.Gain.Is[0])
	if was != a.Law {
		s.Held = clip(a.Prev-p, -r.Most, r.Most)
	}
	return clip(p+s.Held, -r.Most, r.Most), s
}

// drawn rules, states and asks, of all sizes.
func drawn(d *rand.Rand) (hold.Rule, hold.State, hold.Ask) {
	sized := func(most int) int { return d.Intn(1 + most>>d.Intn(18)) }
	both := func(most int) int { return sized(most) * (1 - 2*d.Intn(2)) }
	r := flat(hold.Rule{Turn: sized(turn), Build: sized(gain), Most: 1 + sized(most-1)}, sized(gain))
	r.Lo = both(edge)
	r.Hi = min(edge, r.Lo+sized(2*edge))
	s := hold.State{Aim: r.Lo + d.Intn(r.Hi-r.Lo+1), Held: clip(both(most), -r.Most, r.Most), Law: d.Intn(4)}
	a := hold.Ask{Stick: d.Intn(201) - 100, Is: both(3 * worth), Speed: both(worth), Law: d.Intn(4), Prev: clip(both(most), -r.Most, r.Most)}
	return r, s, a
}

// I2, I3: drawn rules, states and asks against the words of the chapter; what comes out may go in again.
func TestDrawn(t *testing.T) {
	d := rand.New(rand.NewSource(9))
	for range 100000 {
		r, s, a := drawn(d)
		move, next := oracle(r, s, a)
		want(t, r, s, a, move, next)
		got := move + d.Intn(2)
		behind := next
		if a.Law == normal && got == move {
			behind.Held = clip(next.Held+pull(next.Aim, a.Is, r.Build), -r.Most, r.Most)
		}
		told(t, r, next, a, move, got, behind)
		if _, _, err := hold.Want(r, behind, a); err != nil {
			t.Errorf("what comes of %v, %v, %v can't go in again: %v", r, s, a, err)
		}
		if t.Failed() {
			return
		}
	}
}

// I2: where the law changes, what is wanted doesn't jump, as far as what is held can make up for the pull.
func TestNoJump(t *testing.T) {
	d := rand.New(rand.NewSource(10))
	for range 20000 {
		r, s, a := drawn(d)
		a.Law, a.Is = d.Intn(2), clip(a.Is, r.Lo, r.Hi)
		a.Stick = 0
		if s.Law == a.Law {
			continue
		}
		if move, _, err := hold.Want(r, s, a); move != a.Prev || err != nil {
			t.Fatalf("Want(%v, %v, %v): %d %v", r, s, a, move, err)
		}
	}
}

// Z2: the line of gains is not written into, nor is what stands behind it read.
func TestLineIsLeftAlone(t *testing.T) {
	at, is := []int{0, 10, 5}, []int{256, 128, -7}
	r := usual()
	r.Gain = api.Line{At: at[:2], Is: is[:2]}
	check(t, r, nil)
	s, a := hold.State{Held: 4}, hold.Ask{Stick: 100, Speed: 20}
	want(t, r, s, a, 29, hold.State{Aim: 50, Held: 4})
	told(t, r, s, a, 1, 1, hold.State{Held: 4})
	if !slices.Equal(at, []int{0, 10, 5}) || !slices.Equal(is, []int{256, 128, -7}) {
		t.Errorf("the line is written into: %d %d", at, is)
	}
}
