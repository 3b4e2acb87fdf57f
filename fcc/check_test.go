package fcc_test

import (
	"math"
	"slices"
	"testing"

	"fulmar/api"
	"fulmar/fcc"
	"fulmar/vote"
)

const (
	edge  = 100000
	push  = 1000
	trip  = 1000
	gain  = 65536
	worth = 1000000
)

// with a change of a craft, which is handed in as a value: lists are laid anew, never written into.
func with(c api.Craft, change func(*api.Craft)) api.Craft {
	change(&c)
	return c
}

// withAxis: with a change of one axis.
func withAxis(c api.Craft, i int, change func(*api.Axis)) api.Craft {
	change(&c.Axes[i])
	return c
}

func twice(a api.Axis) api.Craft { return api.Craft{Axes: [2]api.Axis{a, a}, Confirm: 1} }

// small: each number as small as it may be, with the least room.
func small() api.Craft {
	return twice(api.Axis{Lo: -1, Hi: 1, Surfaces: 2, Travel: 1, Rate: 1, Confirm: 1, Watch: 1, Gain: api.Line{At: []int{0, 1}, Is: []int{0, 0}}})
}

// great: each number as great as it may be.
func great() api.Craft {
	c := twice(api.Axis{
		Lo: -edge, Hi: edge, Noise: push, Push: push, Surfaces: 4, Travel: trip, Rate: trip, Slack: trip,
		Limit: worth, Confirm: 10, Watch: 10, Turn: trip, Build: gain, Gain: api.Line{At: []int{-worth, worth}, Is: []int{gain, gain}},
	})
	c.Limit, c.Confirm = worth, 10
	return c
}

// isZero: nothing of a state is other than zero.
func isZero(s fcc.State) bool {
	return s.Banks == [3]vote.Bank{} && len(s.Servos[0]) == 0 && len(s.Servos[1]) == 0 && s.Holds == fcc.State{}.Holds && s.Law == 0
}

// nothing but an error comes of a frame.
func nothing(t *testing.T, c api.Craft, s fcc.State, words []uint32, want error) {
	t.Helper()
	if next, told, err := fcc.Step(c, s, words); err != want || !isZero(next) || len(told) != 0 {
		t.Errorf("Step of %v, %v, %d words: %v %v %v, wanted %v", c, s, len(words), next, told, err, want)
	}
}

// check what Check tells, and, if it is an error, that all tell it with nothing else, whatever state and words they are given.
func check(t *testing.T, c api.Craft, want error) {
	t.Helper()
	if err := fcc.Check(c); err != want {
		t.Errorf("Check(%v): %v, wanted %v", c, err, want)
	}
	s, err := fcc.New(c)
	if err != want || (want != nil && !isZero(s)) {
		t.Errorf("New(%v): %v %v, wanted %v", c, s, err, want)
	}
	if want == nil {
		if err := fcc.CheckState(c, s); err != nil {
			t.Errorf("CheckState(%v) of a new state: %v", c, err)
		}
		return
	}
	usual, _ := fcc.New(fcc.Usual())
	for _, s := range []fcc.State{{}, usual, {Law: 9}} {
		if err := fcc.CheckState(c, s); err != want {
			t.Errorf("CheckState(%v, %v): %v, wanted %v", c, s, err, want)
		}
		nothing(t, c, s, nil, want)
		nothing(t, c, s, make([]uint32, 65), want)
	}
}

// J1: crafts that may be, at the edges of what one says.
func TestCraftsThatMayBe(t *testing.T) {
	for _, c := range []api.Craft{fcc.Usual(), small(), great()} {
		check(t, c, nil)
	}
	for i := range 2 {
		for _, change := range []func(*api.Axis){
			func(a *api.Axis) { a.Surfaces = 2 },
			func(a *api.Axis) { a.Surfaces = 4 },
			func(a *api.Axis) { a.Rate = 100 },
			func(a *api.Axis) { a.Push, a.Slack = 60, 0 }, // all that two surfaces do against it
			func(a *api.Axis) { a.Push, a.Slack = 55, 5 },
			func(a *api.Axis) { a.Push, a.Slack = 20, 40 },
			func(a *api.Axis) { a.Surfaces, a.Push = 2, 25 },
			func(a *api.Axis) { a.Surfaces, a.Push = 4, 85 },
			func(a *api.Axis) { a.Lo, a.Hi = -545, 545 }, // Noise 5; 225 and 165 and 105 and 45 to stop
			func(a *api.Axis) { a.Lo, a.Hi = 0, 1090 },
			func(a *api.Axis) { a.Lo, a.Hi = -1090, 0 },
			func(a *api.Axis) { a.Limit = 10 },
			func(a *api.Axis) { a.Limit, a.Noise = 0, 0 },
			func(a *api.Axis) { a.Gain.Is = []int{0, gain} },
		} {
			check(t, withAxis(fcc.Usual(), i, change), nil)
		}
	}
}

// J1: numbers that may not be, each for itself.
func TestNumbersOutOfRange(t *testing.T) {
	for _, f := range []struct {
		of    func(*api.Axis) *int
		wrong []int
	}{
		{func(a *api.Axis) *int { return &a.Surfaces }, []int{-1, 0, 1, 5}},
		{func(a *api.Axis) *int { return &a.Push }, []int{-1, push + 1}},
		{func(a *api.Axis) *int { return &a.Limit }, []int{-1, worth + 1}},
		{func(a *api.Axis) *int { return &a.Confirm }, []int{-1, 0, 11}},
		{func(a *api.Axis) *int { return &a.Travel }, []int{-1, 0, trip + 1}},
		{func(a *api.Axis) *int { return &a.Rate }, []int{-1, 0, 101, trip + 1}}, // Travel is 100
		{func(a *api.Axis) *int { return &a.Slack }, []int{-1, 101, trip + 1}},
		{func(a *api.Axis) *int { return &a.Watch }, []int{-1, 0, 11}},
		{func(a *api.Axis) *int { return &a.Lo }, []int{-edge - 1, edge + 1}},
		{func(a *api.Axis) *int { return &a.Hi }, []int{-edge - 1, edge + 1}},
		{func(a *api.Axis) *int { return &a.Noise }, []int{-1, push + 1}},
		{func(a *api.Axis) *int { return &a.Turn }, []int{-1, trip + 1}},
		{func(a *api.Axis) *int { return &a.Build }, []int{-1, gain + 1}},
	} {
		for _, n := range append(f.wrong, math.MaxInt, math.MinInt) {
			for i := range 2 {
				check(t, withAxis(fcc.Usual(), i, func(a *api.Axis) { *f.of(a) = n }), api.ErrRange)
			}
		}
	}
	for _, n := range []int{-1, worth + 1, math.MaxInt, math.MinInt} {
		check(t, with(fcc.Usual(), func(c *api.Craft) { c.Limit = n }), api.ErrRange)
	}
	for _, n := range []int{-1, 0, 11, math.MaxInt, math.MinInt} {
		check(t, with(fcc.Usual(), func(c *api.Craft) { c.Confirm = n }), api.ErrRange)
	}
	check(t, api.Craft{}, api.ErrRange)
}

// J1: numbers that may be, but not so: with one surface lost, gusts and slack together must be stopped within the envelope.
func TestCraftsThatMayNotBeSo(t *testing.T) {
	for i := range 2 {
		for _, change := range []func(*api.Axis){
			func(a *api.Axis) { a.Push, a.Slack = 60, 1 },
			func(a *api.Axis) { a.Push = 56 },
			func(a *api.Axis) { a.Slack = 41 },
			func(a *api.Axis) { a.Surfaces, a.Push = 2, 26 },
			func(a *api.Axis) { a.Surfaces, a.Push = 4, 86 },
			func(a *api.Axis) { a.Lo, a.Hi = -545, 544 },
			func(a *api.Axis) { a.Lo, a.Hi = 0, 1089 },
			func(a *api.Axis) { a.Lo, a.Hi = 1, 4000 },
			func(a *api.Axis) { a.Lo, a.Hi = -4000, -1 },
			func(a *api.Axis) { a.Lo, a.Hi = 4000, -4000 },
			func(a *api.Axis) { a.Limit = 9 },
			func(a *api.Axis) { a.Noise = 11 },
			func(a *api.Axis) { a.Gain = api.Line{} },
			func(a *api.Axis) { a.Gain.At = []int{0, 300, 301} },
			func(a *api.Axis) { a.Gain.At = []int{300, 300} },
		} {
			check(t, withAxis(fcc.Usual(), i, change), api.ErrForm)
		}
		check(t, withAxis(fcc.Usual(), i, manyGains), api.ErrLimit)
		for _, is := range [][]int{{-1, 0}, {0, gain + 1}, {0, worth + 1}} {
			check(t, withAxis(fcc.Usual(), i, func(a *api.Axis) { a.Gain.Is = is }), api.ErrRange)
		}
		check(t, withAxis(fcc.Usual(), i, func(a *api.Axis) { a.Gain.At = []int{0, worth + 1} }), api.ErrRange)
	}
}

// manyGains: more than a line may have.
func manyGains(a *api.Axis) {
	a.Gain = api.Line{At: []int{0, 1, 2, 3, 4, 5, 6, 7, 8}, Is: slices.Repeat([]int{1}, 9)}
}

// J1: of several errors the one named first is told.
func TestFirstErrorOfACraft(t *testing.T) {
	noRoom := func(a *api.Axis) { a.Lo, a.Hi = -1, 1 } // guard.Check's: ErrForm
	for _, two := range []struct {
		one, other func(*api.Axis)
		want       error
	}{
		{func(a *api.Axis) { a.Surfaces = 1 }, noRoom, api.ErrRange},
		{func(a *api.Axis) { a.Push = -1 }, noRoom, api.ErrRange},
		{func(a *api.Axis) { a.Push = push + 1 }, noRoom, api.ErrRange},
		{func(a *api.Axis) { a.Limit = -1 }, noRoom, api.ErrRange},
		{func(a *api.Axis) { a.Confirm = 0 }, noRoom, api.ErrRange},
		{func(a *api.Axis) { a.Watch = 0 }, noRoom, api.ErrRange},
		{func(a *api.Axis) { a.Slack = 101 }, noRoom, api.ErrRange},
		{func(a *api.Axis) { a.Noise = -1 }, noRoom, api.ErrRange},
		{func(a *api.Axis) { a.Confirm = 0 }, manyGains, api.ErrRange},
		{func(a *api.Axis) { a.Watch = 0 }, manyGains, api.ErrRange},
		{func(a *api.Axis) { a.Lo = edge + 1 }, manyGains, api.ErrRange},
		{noRoom, func(a *api.Axis) { a.Turn = -1 }, api.ErrForm},
		{noRoom, manyGains, api.ErrForm},
		{manyGains, func(a *api.Axis) { a.Limit = 9 }, api.ErrLimit},
		{manyGains, func(a *api.Axis) { a.Lo = 1 }, api.ErrLimit},
		{manyGains, func(a *api.Axis) { a.Hi = -1; a.Lo = -4000 }, api.ErrLimit},
		{func(a *api.Axis) { a.Build = -1 }, func(a *api.Axis) { a.Limit = 9 }, api.ErrRange},
	} {
		for i := range 2 {
			check(t, withAxis(withAxis(fcc.Usual(), i, two.one), i, two.other), two.want)
		}
	}
	// Axis by axis, then what is the craft's own.
	late, early := func(a *api.Axis) { a.Limit = 9 }, func(a *api.Axis) { a.Surfaces = 1 }
	check(t, withAxis(withAxis(fcc.Usual(), 0, late), 1, early), api.ErrForm)
	check(t, withAxis(withAxis(fcc.Usual(), 1, late), 0, early), api.ErrRange)
	for i := range 2 {
		check(t, with(withAxis(fcc.Usual(), i, late), func(c *api.Craft) { c.Confirm = 0 }), api.ErrForm)
		check(t, with(withAxis(fcc.Usual(), i, manyGains), func(c *api.Craft) { c.Limit = -1 }), api.ErrLimit)
	}
}

// J5: the usual craft, number by number; its lists are the caller's, and each its own.
func TestUsual(t *testing.T) {
	for range 2 {
		c := fcc.Usual()
		if c.Limit != 10 || c.Confirm != 3 {
			t.Errorf("the speed is voted by %d, %d", c.Limit, c.Confirm)
		}
		for i, is := range [][]int{{40, 20}, {60, 30}} {
			a := c.Axes[i]
			if !slices.Equal(a.Gain.At, []int{0, 300}) || !slices.Equal(a.Gain.Is, is) {
				t.Errorf("axis %d has the gain %v", i, a.Gain)
			}
			got := []int{a.Lo, a.Hi, a.Noise, a.Push, a.Surfaces, a.Travel, a.Rate, a.Slack, a.Limit, a.Confirm, a.Watch, a.Turn, a.Build}
			if !slices.Equal(got, []int{-4000, 4000, 5, 20, 3, 100, 30, 5, 20, 3, 3, 60, 2}) {
				t.Errorf("axis %d is %v", i, got)
			}
		}
		// None of what is written here, one by one, may be seen in another list, nor the next time.
		lists := [][]int{c.Axes[0].Gain.At, c.Axes[0].Gain.Is, c.Axes[1].Gain.At, c.Axes[1].Gain.Is}
		for i, l := range lists {
			l[0], l[1] = -i-1, -i-1
		}
		for i, l := range lists {
			if l[0] != -i-1 || l[1] != -i-1 {
				t.Errorf("list %d shares memory: %v", i, l)
			}
		}
	}
}
