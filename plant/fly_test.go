package plant_test

import (
	"math"
	"slices"
	"testing"

	"fulmar/api"
	"fulmar/fcc"
	"fulmar/plant"
)

// flat: a gain that is the same at all speeds.
func flat(n int) api.Line { return api.Line{At: []int{0, 1}, Is: []int{n, n}} }

// keen: a craft that in its first frame moves each axis by as much as it is seen from 0, back: where it is then tells what was voted. Its envelope is wide.
func keen() api.Craft {
	c := fcc.Usual()
	for i := range c.Axes {
		a := &c.Axes[i]
		a.Turn, a.Build, a.Gain = 0, 0, flat(256)
	}
	return c
}

// still: a craft whose surfaces stay at 0, away from the edges.
func still() api.Craft {
	c := keen()
	for i := range c.Axes {
		c.Axes[i].Gain, c.Axes[i].Noise = flat(0), 0
	}
	return c
}

func fly(t *testing.T, c api.Craft, faults []api.Fault, steps ...api.Step) []api.Report {
	t.Helper()
	l, err := plant.Fly(c, faults, steps)
	if err != nil {
		t.Fatalf("Fly(%v, %v): %v", c, faults, err)
	}
	return l
}

// times: a step, over and over.
func times(n int, s api.Step) []api.Step { return slices.Repeat([]api.Step{s}, n) }

// noise of three channels of an axis, as a step tells it.
func noise(a api.Axis, l ...int) int {
	n, base := 0, 2*a.Noise+1
	for _, x := range slices.Backward(l) {
		n = n*base + x + a.Noise
	}
	return n
}

// K2 to K4: the flights of the document's session.
func TestTheDocumentsFlights(t *testing.T) {
	steps := times(60, api.Step{Stick: [2]int{100, 0}, Push: [2]int{20, 0}, Noise: [2]int{0, 665}, Speed: 100})
	type told struct {
		at, is0, is1, law, left0, left1, sound0, sound1 int
	}
	check := func(l []api.Report, want ...told) {
		for _, w := range want {
			r := l[w.at]
			if got := (told{w.at, r.Is[0], r.Is[1], r.Law, r.Left[0], r.Left[1], r.Sound[0], r.Sound[1]}); got != w {
				t.Errorf("%v, not %v", got, w)
			}
		}
	}
	check(fly(t, fcc.Usual(), nil, steps...), told{0, 28, 0, 0, 3, 3, 3, 3}, told{59, 3662, 0, 0, 3, 3, 3, 3})
	l := fly(t, fcc.Usual(), []api.Fault{fault(5, stuck, 0, 2, 3000), fault(20, loose, 1, 0, 100)}, steps...)
	check(l, told{10, 512, 0, 0, 2, 3, 3, 3}, told{40, 2453, 135, 1, 2, 3, 3, 2})
	lo, hi := l[0].Is, l[0].Is
	for _, r := range l {
		for i := range 2 {
			lo[i], hi[i] = min(lo[i], r.Is[i]), max(hi[i], r.Is[i])
		}
	}
	if lo != [2]int{28, 0} || hi != [2]int{3595, 261} {
		t.Errorf("from %v to %v", lo, hi)
	}
}

// K3, K4: at first all is at 0; then each axis goes by its surfaces and the push.
func TestTheFirstFrames(t *testing.T) {
	c := keen()
	for i := range c.Axes {
		c.Axes[i].Noise = 0
	}
	l := fly(t, c, nil, api.Step{Push: [2]int{7, -20}}, api.Step{Push: [2]int{0, 3}}, api.Step{})
	all := [2]int{3, 3}
	for i, want := range []api.Report{
		{Is: [2]int{7, -20}, Left: all, Sound: all},
		{Is: [2]int{0, 3}, Left: all, Sound: all, At: [2][4]int{{-2, -2, -3}, {7, 7, 6}}},
		{Is: [2]int{0, 0}, Left: all, Sound: all, At: [2][4]int{{0, 0, 0}, {-1, -1, -1}}},
	} {
		if l[i] != want {
			t.Errorf("frame %d: %v", i, l[i])
		}
	}
}

// K3: each stick moves its own axis.
func TestSticks(t *testing.T) {
	c := still()
	for i := range c.Axes {
		c.Axes[i].Turn, c.Axes[i].Gain = 50, flat(256)
	}
	for _, k := range []struct{ stick, is [2]int }{
		{[2]int{0, 0}, [2]int{0, 0}}, {[2]int{100, 0}, [2]int{50, 0}}, {[2]int{0, 100}, [2]int{0, 50}}, {[2]int{-100, 30}, [2]int{-50, 15}},
	} {
		if l := fly(t, c, nil, api.Step{Stick: k.stick}); l[0].Is != k.is {
			t.Errorf("%v: %v, not %v", k.stick, l[0].Is, k.is)
		}
	}
}

// but all channels of an axis, but one, are quiet.
func but(axis, k int) []api.Fault {
	var l []api.Fault
	for i := range 3 {
		if i != k {
			l = append(l, api.Fault{Kind: quiet, Axis: axis, Unit: i})
		}
	}
	return l
}

// K3: the noise of a channel is a digit of the step's number; the lowest one is channel 0's, and those above the third are nobody's.
func TestNoiseIsDigits(t *testing.T) {
	c := keen()
	for axis, a := range c.Axes {
		for _, l := range [][]int{{-4, -1, 5}, {5, -5, 0}, {-5, -5, -5}, {5, 5, 5}, {0, 0, 0}, {3, 2, -1}} {
			for _, above := range []int{0, 1331, 1331 * 6453000} {
				s := api.Step{}
				s.Noise[axis] = noise(a, l...) + above
				s.Noise[1-axis] = 665
				for k, n := range l {
					want := [2]int{}
					want[axis] = -n
					if got := fly(t, c, but(axis, k), s)[0].Is; got != want {
						t.Errorf("axis %d, channel %d of noise %v: %v", axis, k, l, got)
					}
				}
				middle := slices.Sorted(slices.Values(l))[1]
				if got := fly(t, c, nil, s)[0].Is[axis]; got != -middle {
					t.Errorf("axis %d, noise %v: %d", axis, l, got)
				}
			}
		}
	}
}

// K3: the least and the greatest noise that an axis may have.
func TestNoiseOfNoneAndOfMost(t *testing.T) {
	c := keen()
	c.Axes[0].Noise = 0
	a := &c.Axes[1]
	a.Noise, a.Limit, a.Travel, a.Rate, a.Lo, a.Hi = 1000, 2000, 1000, 1000, -100000, 100000
	digits := [3]int{noiseMost % 2001, noiseMost / 2001 % 2001, noiseMost / 2001 / 2001 % 2001}
	for k, digit := range digits {
		got := fly(t, c, but(1, k), api.Step{Noise: [2]int{noiseMost, noiseMost}})[0].Is
		if got != [2]int{0, 1000 - digit} {
			t.Errorf("channel %d: %v", k, got)
		}
	}
	if got := fly(t, c, nil, api.Step{Noise: [2]int{0, 2001*2001*2001 - 1}})[0].Is; got != [2]int{0, -1000} {
		t.Errorf("the greatest digits: %v", got)
	}
}

// lefts of an axis, frame by frame.
func lefts(l []api.Report, axis int) []int {
	var out []int
	for _, r := range l {
		out = append(out, r.Left[axis])
	}
	return out
}

// K3: what a channel says with a fault, by when it is found out: bad in three frames, from frame At on.
func TestFaultsOfAChannel(t *testing.T) {
	never, at2 := []int{3, 3, 3, 3, 3, 3, 3}, []int{3, 3, 3, 3, 2, 2, 2}
	for _, k := range []struct {
		f    api.Fault
		want []int
	}{
		{api.Fault{At: 2, Kind: quiet}, at2},
		{api.Fault{At: 0, Kind: quiet}, []int{3, 3, 2, 2, 2, 2, 2}},
		{api.Fault{At: 4, Kind: quiet}, []int{3, 3, 3, 3, 3, 3, 2}},
		{api.Fault{At: 5, Kind: quiet}, never},
		{api.Fault{At: 300, Kind: quiet}, never},
		{api.Fault{At: 2, Kind: mark}, at2},
		{api.Fault{At: 2, Kind: stuck, Is: 0}, never},
		{api.Fault{At: 2, Kind: stuck, Is: 20}, never},
		{api.Fault{At: 2, Kind: stuck, Is: -20}, never},
		{api.Fault{At: 2, Kind: stuck, Is: 21}, at2},
		{api.Fault{At: 2, Kind: stuck, Is: -21}, at2},
		{api.Fault{At: 2, Kind: stuck, Is: math.MaxInt}, at2},
		{api.Fault{At: 2, Kind: shift, Is: 20}, never},
		{api.Fault{At: 2, Kind: shift, Is: -20}, never},
		{api.Fault{At: 2, Kind: shift, Is: 21}, at2},
		{api.Fault{At: 2, Kind: shift, Is: -21}, at2},
		{api.Fault{At: 2, Kind: shift, Is: math.MinInt}, at2},
	} {
		for axis := range 2 {
			for unit := range 3 {
				k.f.Axis, k.f.Unit = axis, unit
				l := fly(t, still(), []api.Fault{k.f}, make([]api.Step, 7)...)
				if got := lefts(l, axis); !slices.Equal(got, k.want) {
					t.Errorf("%v: %v", k.f, got)
				}
				if got := lefts(l, 1-axis); !slices.Equal(got, never) {
					t.Errorf("%v: the other axis: %v", k.f, got)
				}
			}
		}
	}
}

// K3: one that is shifted goes with its axis; one that is stuck at 20 stays, and is bad from frame 3 on, where its axis is at 60.
func TestShiftGoesOnAndStuckStays(t *testing.T) {
	steps := times(6, api.Step{Push: [2]int{20, 20}})
	for kind, want := range map[int][]int{shift: {3, 3, 3, 3, 3, 3}, stuck: {3, 3, 3, 3, 3, 2}} {
		l := fly(t, still(), []api.Fault{{Kind: kind, Axis: 1, Is: 20}}, steps...)
		if got := lefts(l, 1); !slices.Equal(got, want) {
			t.Errorf("kind %d: %v", kind, got)
		}
	}
}

// K3: Is is clipped to -MaxData and MaxData, one less than a word can hold below 0; what is shifted to what it can hold.
func TestWhatAFaultMaySay(t *testing.T) {
	c := still()
	a := &c.Axes[0]
	a.Confirm = 1
	down := api.Step{Push: [2]int{-1, 0}}
	for _, k := range []struct {
		f           api.Fault
		limit, left int
	}{
		{api.Fault{Kind: stuck, Is: math.MinInt}, wordMost - 1, 3}, // 262143 below 0, and it is at -1
		{api.Fault{Kind: stuck, Is: math.MinInt}, wordMost - 2, 2},
		{api.Fault{Kind: stuck, Is: -wordMost - 1}, wordMost - 1, 3},
		{api.Fault{Kind: stuck, Is: math.MaxInt}, wordMost + 1, 3},
		{api.Fault{Kind: stuck, Is: math.MaxInt}, wordMost, 2},
		{api.Fault{Kind: shift, Is: math.MinInt}, wordMost, 3}, // 262144 below 0: as far as a word can hold
		{api.Fault{Kind: shift, Is: math.MinInt}, wordMost - 1, 2},
		{api.Fault{Kind: shift, Is: math.MaxInt}, wordMost, 3}, // 262143 more than -1
		{api.Fault{Kind: shift, Is: math.MaxInt}, wordMost - 1, 2},
	} {
		a.Limit = k.limit
		k.f.At = 1
		if l := fly(t, c, []api.Fault{k.f}, down, api.Step{}); l[1].Left[0] != k.left || l[1].Is[0] != -1 {
			t.Errorf("%v, limit %d: %v", k.f, k.limit, l[1])
		}
	}
	// Up, from 1: 262143 and no more.
	a.Limit = wordMost - 1
	if l := fly(t, c, []api.Fault{{At: 1, Kind: shift, Is: wordMost}}, api.Step{Push: [2]int{1, 0}}, api.Step{}); l[1].Left[0] != 3 {
		t.Errorf("up: %v", l[1])
	}
}

// K3: an axis that is further away than a word can hold is said to be where that ends; its noise is part of what is clipped.
func TestPlacesBeyondAWord(t *testing.T) {
	for _, k := range []struct{ side, end int }{{1, wordMost}, {-1, -wordMost - 1}} {
		c := still()
		a := &c.Axes[1]
		a.Push, a.Travel, a.Rate, a.Slack, a.Watch, a.Lo, a.Hi = 1000, 1000, 1000, 0, 1, -20000, 20000
		a.Noise, a.Limit, a.Confirm = 3, 6, 1
		var faults []api.Fault
		for unit := range 3 {
			// None of them can be where it should be, so that all are out, and nobody stops it.
			faults = append(faults, api.Fault{Kind: loose, Axis: 1, Unit: unit, Is: 1000 * k.side})
		}
		steps := times(290, api.Step{Push: [2]int{0, 1000 * k.side}, Noise: [2]int{0, noise(*a, 0, 3*k.side, -3*k.side)}})
		stopped := fly(t, c, faults, steps...)
		last := stopped[289]
		if last.Is[1]*k.side < 280000 || last.Left[1] != 3 || last.Sound[1] != 0 || last.Law != 3 {
			t.Fatalf("far away: %v", last)
		}
		// One that is stuck 6 within the end of a word is as far from it as may be; one that is 7 within is bad.
		for within, left := range map[int]int{6: 3, 7: 2} {
			l := fly(t, c, append(slices.Clone(faults), api.Fault{At: 289, Kind: stuck, Axis: 1, Unit: 0, Is: k.end - within*k.side}), steps...)
			if l[289].Left[1] != left {
				t.Errorf("%d within: %v", within, l[289])
			}
		}
	}
}

// K3: of several faults of one channel the one that stands last holds, of those that have begun.
func TestOfSeveralFaultsTheLastOneHolds(t *testing.T) {
	fine, bad := api.Fault{Kind: shift, Is: 0}, api.Fault{Kind: quiet}
	from := func(f api.Fault, at int) api.Fault { f.At = at; return f }
	other := api.Fault{Kind: shift, Unit: 1}
	never := []int{3, 3, 3, 3, 3, 3}
	for _, k := range []struct {
		faults []api.Fault
		want   []int
	}{
		{[]api.Fault{bad, fine}, never},
		{[]api.Fault{fine, bad}, []int{3, 3, 2, 2, 2, 2}},
		{[]api.Fault{from(bad, 3), fine}, never}, // begun later, but ahead in the list
		{[]api.Fault{fine, from(bad, 3)}, []int{3, 3, 3, 3, 3, 2}},
		{[]api.Fault{bad, from(fine, 2)}, never},
		{[]api.Fault{bad, from(fine, 3)}, []int{3, 3, 2, 2, 2, 2}},
		{[]api.Fault{fine, bad, from(fine, 2), from(bad, 3)}, []int{3, 3, 3, 3, 3, 2}},
		{[]api.Fault{bad, other}, []int{3, 3, 2, 2, 2, 2}}, // another channel's
		{[]api.Fault{bad, {Kind: shift, Axis: 1}}, []int{3, 3, 2, 2, 2, 2}},
		{[]api.Fault{bad, {Kind: shift, Axis: 2}}, []int{3, 3, 2, 2, 2, 2}},
		{[]api.Fault{bad, {Kind: loose}}, []int{3, 3, 2, 2, 2, 2}}, // a surface's
	} {
		if got := lefts(fly(t, still(), k.faults, make([]api.Step, 6)...), 0); !slices.Equal(got, k.want) {
			t.Errorf("%v: %v, not %v", k.faults, got, k.want)
		}
	}
}

// K3: the speed is said by three channels; faults of axis 2 are theirs.
func TestSpeed(t *testing.T) {
	c := still()
	for i := range c.Axes {
		a := &c.Axes[i]
		a.Turn, a.Gain = 50, api.Line{At: []int{100, 356}, Is: []int{0, 256}}
	}
	c.Limit, c.Confirm = 1000, 10
	full := api.Step{Stick: [2]int{100, 100}}
	for speed, is := range map[int]int{0: 0, 100: 0, 228: 25, 356: 50, wordMost: 50} {
		full.Speed = speed
		if l := fly(t, c, nil, full); l[0].Is != [2]int{is, is} {
			t.Errorf("speed %d: %v", speed, l[0])
		}
	}
	full.Speed = 100
	two := func(kind, is int) []api.Fault {
		return []api.Fault{{Kind: kind, Axis: 2, Unit: 0, Is: is}, {Kind: kind, Axis: 2, Unit: 2, Is: is}}
	}
	for _, k := range []struct {
		faults []api.Fault
		is     int
	}{
		{two(stuck, 356), 50}, {two(stuck, 356)[:1], 0}, {two(shift, 128), 25}, {two(quiet, 356), 0}, {two(mark, 356), 0},
		{append(two(mark, 0), api.Fault{Kind: shift, Axis: 2, Unit: 1, Is: 128}), 25},
		{append(two(quiet, 0), api.Fault{Kind: stuck, Axis: 2, Unit: 1, Is: 228}), 25},
	} {
		if l := fly(t, c, k.faults, full); l[0].Is != [2]int{k.is, k.is} || l[0].Left != [2]int{3, 3} {
			t.Errorf("%v: %v", k.faults, l[0])
		}
	}
}

// K3: of no channel of the speed a word: it is what it was at last, 0 at first.
func TestNoSpeedIsTheLastOne(t *testing.T) {
	c := still()
	c.Axes[0].Turn, c.Axes[0].Gain = 50, api.Line{At: []int{0, 256}, Is: []int{256, 0}}
	var faults []api.Fault
	for unit := range 3 {
		faults = append(faults, api.Fault{Kind: quiet, Axis: 2, Unit: unit})
	}
	if l := fly(t, c, faults, api.Step{Stick: [2]int{100, 0}, Speed: 256}); l[0].Is[0] != 50 {
		t.Errorf("%v", l[0])
	}
}

// K4: a loose surface goes where it likes, within its travel, till it is out: then it is at 0.
func TestALooseSurface(t *testing.T) {
	for _, k := range []struct{ is, at int }{
		{100, 100}, {101, 100}, {-100, -100}, {-101, -100}, {math.MaxInt, 100}, {math.MinInt, -100}, {40, 40},
	} {
		for axis := range 2 {
			l := fly(t, still(), []api.Fault{{At: 1, Kind: loose, Axis: axis, Unit: 1, Is: k.is}}, make([]api.Step, 6)...)
			is := 0
			for n, r := range l {
				var at [2][4]int
				sound, law := [2]int{3, 3}, 0
				// It is seen wrongly from frame 2 on, and out in the third such frame.
				switch {
				case n >= 4:
					sound[axis], law = 2, 1
				case n >= 1:
					at[axis][1] = k.at
				}
				is += at[axis][1]
				want := api.Report{Left: [2]int{3, 3}, Sound: sound, Law: law, At: at}
				want.Is[axis] = is
				if r != want {
					t.Errorf("loose at %d, frame %d: %v, not %v", k.is, n, r, want)
				}
			}
		}
	}
}

// K4: one that is loose within its slack isn't found out.
func TestLooseWithinItsSlack(t *testing.T) {
	for is, sound := range map[int]int{5: 3, -5: 3, 6: 2, -6: 2} {
		l := fly(t, still(), []api.Fault{{Kind: loose, Axis: 1, Is: is}}, make([]api.Step, 9)...)
		if got := l[8].Sound; got != [2]int{3, sound} {
			t.Errorf("loose at %d: %v", is, got)
		}
		if at := l[2].At[1][0]; at != is {
			t.Errorf("loose at %d: at %d", is, at)
		}
	}
}

// K4: of several faults of one surface the one that stands last holds, of those that have begun; those of a channel are none of its.
func TestOfSeveralLooseOnesTheLastOneHolds(t *testing.T) {
	c := still()
	c.Axes[0].Watch = 10
	one := func(at, is int) api.Fault { return api.Fault{At: at, Kind: loose, Unit: 2, Is: is} }
	for _, k := range []struct {
		faults []api.Fault
		want   []int
	}{
		{[]api.Fault{one(0, 10), one(0, 20)}, []int{20, 20, 20, 20}},
		{[]api.Fault{one(0, 10), one(2, 20)}, []int{10, 10, 20, 20}},
		{[]api.Fault{one(2, 10), one(0, 20)}, []int{20, 20, 20, 20}},
		{[]api.Fault{one(2, 10), one(3, 20)}, []int{0, 0, 10, 20}},
		{[]api.Fault{one(1, 10), {Kind: shift, Unit: 2}}, []int{0, 10, 10, 10}},
		{[]api.Fault{one(1, 10), {Kind: loose, Unit: 1, Is: 7}, {Kind: loose, Axis: 1, Unit: 2, Is: 8}}, []int{0, 10, 10, 10}},
	} {
		var got []int
		for _, r := range fly(t, c, k.faults, make([]api.Step, 4)...) {
			got = append(got, r.At[0][2])
		}
		if !slices.Equal(got, k.want) {
			t.Errorf("%v: %v, not %v", k.faults, got, k.want)
		}
	}
}

// K4: the laws, from the normal one to the backup, as surfaces are lost one after the other; and how many are sound.
func TestLawsOfLostSurfaces(t *testing.T) {
	c := still()
	c.Axes[1].Watch = 1
	var faults []api.Fault
	for unit := range 3 {
		faults = append(faults, api.Fault{At: 2 * unit, Kind: loose, Axis: 1, Unit: unit, Is: []int{100, -100}[unit%2]})
	}
	l := fly(t, c, faults, make([]api.Step, 7)...)
	for n, want := range [][2]int{{0, 3}, {1, 2}, {1, 2}, {2, 1}, {2, 1}, {3, 0}, {3, 0}} {
		if r := l[n]; r.Law != want[0] || r.Sound != [2]int{3, want[1]} || r.Left != [2]int{3, 3} {
			t.Errorf("frame %d: %v, not law and sound %v", n, r, want)
		}
	}
	if last := l[6]; last.At != [2][4]int{} {
		t.Errorf("all are out, at %v", last.At)
	}
}

// K4: as many surfaces as there are; beyond these 0.
func TestFourSurfacesAndTwo(t *testing.T) {
	c := still()
	c.Axes[0].Surfaces, c.Axes[1].Surfaces = 4, 2
	for i := range c.Axes {
		c.Axes[i].Turn, c.Axes[i].Gain, c.Axes[i].Rate = 80, flat(256), 50
	}
	r := fly(t, c, nil, api.Step{Stick: [2]int{100, -50}})[0]
	want := api.Report{Is: [2]int{80, -40}, Left: [2]int{3, 3}, Sound: [2]int{4, 2}, At: [2][4]int{{20, 20, 20, 20}, {-20, -20}}}
	if r != want {
		t.Errorf("%v", r)
	}
}
