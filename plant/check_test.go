package plant_test

import (
	"math"
	"slices"
	"testing"

	"fulmar/api"
	"fulmar/fcc"
	"fulmar/plant"
)

const (
	quiet = iota
	stuck
	shift
	mark
	loose
)

const (
	wordMost  = 262143
	noiseMost = 8589934591 // 2^33 - 1
)

// wild numbers, at which sums and opposites wrap round.
func wild() []int {
	return []int{math.MinInt, math.MinInt + 1, -1 << 33, math.MinInt32, math.MaxInt32, 1 << 33, math.MaxInt - 1, math.MaxInt}
}

func fault(at, kind, axis, unit, is int) api.Fault {
	return api.Fault{At: at, Kind: kind, Axis: axis, Unit: unit, Is: is}
}

// K1: which faults may be.
func TestCheckFault(t *testing.T) {
	c := fcc.Usual()
	c.Axes[0].Surfaces, c.Axes[1].Surfaces = 2, 4
	for _, f := range []api.Fault{
		{}, {At: 300}, {Kind: mark}, {Kind: loose}, {Axis: 2}, {Unit: 2}, fault(300, mark, 2, 2, 5),
		// Of a channel it plays no part how many surfaces there are, of a surface not how many channels.
		fault(0, shift, 0, 2, 0), fault(0, loose, 0, 1, 0), fault(0, loose, 1, 3, 0),
	} {
		for _, is := range append(wild(), 0, -7) {
			f.Is = is
			if err := plant.CheckFault(c, f); err != nil {
				t.Errorf("CheckFault(%v): %v", f, err)
			}
		}
	}
	wrong := []api.Fault{
		{At: -1}, {At: 301}, {Kind: -1}, {Kind: 5}, {Axis: -1}, {Axis: 3}, {Unit: -1}, {Unit: 3},
		fault(0, stuck, 1, 3, 0), fault(0, mark, 2, 3, 0), fault(0, shift, 0, -1, 0),
		fault(0, loose, 2, 0, 0), fault(0, loose, -1, 0, 0), fault(0, loose, 3, 0, 0),
		fault(0, loose, 0, 2, 0), fault(0, loose, 1, 4, 0), fault(0, loose, 0, -1, 0), fault(0, loose, 1, -1, 0),
	}
	for _, n := range wild() {
		wrong = append(wrong, api.Fault{At: n}, api.Fault{Kind: n}, api.Fault{Axis: n}, api.Fault{Unit: n}, api.Fault{Kind: loose, Unit: n}, fault(n, n, n, n, n))
	}
	for _, f := range wrong {
		if err := plant.CheckFault(c, f); err != api.ErrRange {
			t.Errorf("CheckFault(%v): %v", f, err)
		}
	}
}

// K1: whether a craft may be isn't asked of a fault.
func TestCheckFaultOfACraftThatMayNotBe(t *testing.T) {
	var c api.Craft
	if err := plant.CheckFault(c, api.Fault{Unit: 2}); err != nil {
		t.Error(err)
	}
	for _, n := range append(wild(), 0, -1) {
		c.Axes[1].Surfaces = n
		want := error(api.ErrRange)
		if n > 0 {
			want = nil
		}
		if err := plant.CheckFault(c, api.Fault{Kind: loose, Axis: 1}); err != want {
			t.Errorf("of %d surfaces: %v", n, err)
		}
	}
}

// K1: which steps may be.
func TestCheckStep(t *testing.T) {
	c := fcc.Usual()
	c.Axes[1].Push = 0
	for _, s := range []api.Step{
		{}, {Ground: true}, {Stick: [2]int{100, -100}}, {Stick: [2]int{-100, 100}}, {Push: [2]int{20, 0}}, {Push: [2]int{-20, 0}},
		{Noise: [2]int{noiseMost, noiseMost}}, {Speed: wordMost}, {Stick: [2]int{100, 100}, Push: [2]int{20, 0}, Noise: [2]int{noiseMost, 1}, Speed: wordMost, Ground: true},
	} {
		if err := plant.CheckStep(c, s); err != nil {
			t.Errorf("CheckStep(%v): %v", s, err)
		}
	}
	wrong := []api.Step{{Push: [2]int{21, 0}}, {Push: [2]int{-21, 0}}, {Push: [2]int{0, 1}}, {Push: [2]int{0, -1}}, {Speed: -1}, {Speed: wordMost + 1}}
	for i := range 2 {
		for _, n := range append(wild(), -101, 101) {
			s := api.Step{}
			s.Stick[i] = n
			wrong = append(wrong, s)
		}
		for _, n := range wild() {
			s := api.Step{}
			s.Push[i] = n
			wrong = append(wrong, s)
		}
		for _, n := range []int{-1, noiseMost + 1, math.MinInt, math.MaxInt} {
			s := api.Step{}
			s.Noise[i] = n
			wrong = append(wrong, s)
		}
	}
	for _, n := range wild() {
		wrong = append(wrong, api.Step{Speed: n}, api.Step{Stick: [2]int{n, n}, Push: [2]int{n, n}, Noise: [2]int{n, n}, Speed: n})
	}
	for _, s := range wrong {
		if err := plant.CheckStep(c, s); err != api.ErrRange {
			t.Errorf("CheckStep(%v): %v", s, err)
		}
	}
}

// K1: a push is held against the axis' Push alone, whether the craft may be or not; nothing is as near to 0 as a number below it.
func TestCheckStepOfACraftThatMayNotBe(t *testing.T) {
	var c api.Craft
	if err := plant.CheckStep(c, api.Step{}); err != nil {
		t.Error(err)
	}
	for _, n := range append(wild(), -1) {
		for _, push := range append(wild(), 0, 1, -1) {
			c.Axes[0].Push = n
			want := error(api.ErrRange)
			if n >= 0 && push <= n && push >= -n {
				want = nil
			}
			if err := plant.CheckStep(c, api.Step{Push: [2]int{push, 0}}); err != want {
				t.Errorf("push %d of %d: %v", push, n, err)
			}
		}
	}
}

// K2: what Fly says of what may not be.
func TestFlyErrors(t *testing.T) {
	tooFew := fcc.Usual() // ErrRange
	tooFew.Axes[1].Surfaces = 1
	narrow := fcc.Usual() // ErrForm
	narrow.Axes[0].Lo, narrow.Axes[0].Hi = -10, 10
	usual, wrongFault := api.Fault{Is: 1}, api.Fault{At: -1}
	step, wrongStep := api.Step{Speed: 1}, api.Step{Speed: -1}
	for _, k := range []struct {
		what   string
		c      api.Craft
		faults []api.Fault
		steps  []api.Step
		want   error
	}{
		{"too few surfaces", tooFew, nil, nil, api.ErrRange},
		{"a narrow envelope", narrow, nil, nil, api.ErrForm},
		{"no craft", api.Craft{}, slices.Repeat([]api.Fault{usual}, 21), nil, api.ErrRange},
		{"the craft ahead of how many faults", narrow, slices.Repeat([]api.Fault{usual}, 21), nil, api.ErrForm},
		{"the craft ahead of how many steps", narrow, nil, slices.Repeat([]api.Step{step}, 301), api.ErrForm},
		{"the craft ahead of a fault and a step", narrow, []api.Fault{wrongFault}, []api.Step{wrongStep}, api.ErrForm},
		{"faults", fcc.Usual(), slices.Repeat([]api.Fault{usual}, 21), []api.Step{step}, api.ErrLimit},
		{"steps", fcc.Usual(), nil, slices.Repeat([]api.Step{step}, 301), api.ErrLimit},
		{"how many faults, ahead of what they are", fcc.Usual(), slices.Repeat([]api.Fault{wrongFault}, 21), []api.Step{wrongStep}, api.ErrLimit},
		{"how many steps, ahead of a fault", fcc.Usual(), []api.Fault{wrongFault}, slices.Repeat([]api.Step{wrongStep}, 301), api.ErrLimit},
		{"the last fault", fcc.Usual(), append(slices.Repeat([]api.Fault{usual}, 19), wrongFault), []api.Step{step}, api.ErrRange},
		{"a fault, of no steps", fcc.Usual(), []api.Fault{wrongFault}, nil, api.ErrRange},
		{"the last step", fcc.Usual(), nil, append(slices.Repeat([]api.Step{step}, 299), wrongStep), api.ErrRange},
	} {
		l, err := plant.Fly(k.c, k.faults, k.steps)
		if err != k.want || len(l) != 0 {
			t.Errorf("%s: %d reports, %v", k.what, len(l), err)
		}
	}
}

// K2: as many reports as steps.
func TestFlyHasAReportForEachStep(t *testing.T) {
	for _, n := range []int{0, 1, 2, 299, 300} {
		l, err := plant.Fly(fcc.Usual(), make([]api.Fault, 20), make([]api.Step, n))
		if err != nil || len(l) != n {
			t.Errorf("%d steps: %d reports, %v", n, len(l), err)
		}
	}
}

// Z1: no craft, fault and step makes Fly panic, and beside an error there are no reports.
func TestFlyOfWildNumbers(t *testing.T) {
	numbers := append(wild(), -1, 0, 1, 2, 3, 4, 5, 100, 1000, 262144)
	faults, steps := []api.Fault{{Kind: loose}}, make([]api.Step, 3)
	tell := func(what string, n int, l []api.Report, err error) {
		if (err == nil) != (len(l) == 3) {
			t.Errorf("%s %d: %d reports, %v", what, n, len(l), err)
		}
	}
	for _, n := range numbers {
		c := fcc.Usual()
		a := &c.Axes[1]
		for i, x := range []*int{&a.Lo, &a.Hi, &a.Noise, &a.Push, &a.Surfaces, &a.Travel, &a.Rate, &a.Slack, &a.Limit, &a.Confirm, &a.Watch, &a.Turn, &a.Build, &c.Limit, &c.Confirm} {
			was := *x
			*x = n
			l, err := plant.Fly(c, faults, steps)
			tell("field", i, l, err)
			*x = was
		}
		c.Axes[0].Gain = api.Line{At: []int{n}, Is: []int{n, n}}
		l, err := plant.Fly(c, faults, steps)
		tell("gain", n, l, err)
		f := api.Fault{}
		for i, x := range []*int{&f.At, &f.Kind, &f.Axis, &f.Unit, &f.Is} {
			*x = n
			l, err := plant.Fly(fcc.Usual(), []api.Fault{f}, steps)
			tell("fault", i, l, err)
			*x = 0
		}
		l, err = plant.Fly(fcc.Usual(), nil, []api.Step{{}, {}, {Stick: [2]int{n, 0}, Push: [2]int{0, n}, Noise: [2]int{n, n}, Speed: n}})
		tell("step", n, l, err)
	}
}
