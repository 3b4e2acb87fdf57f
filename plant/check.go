package plant

import (
	"fulmar/api"
	"fulmar/fcc"
	"fulmar/fix"
)

// speedAxis stands in a fault for the speed, which has channels, but no surfaces.
const speedAxis = api.Axes

// maxNoise: three digits fit below it, for every noise that an axis may have.
const maxNoise = 1<<33 - 1

// CheckFault checks a fault of a craft.
func CheckFault(c api.Craft, f api.Fault) error {
	if !fix.IsFrom(f.At, 0, api.MaxSteps) || !fix.IsFrom(f.Kind, 0, api.Kinds-1) || !fix.IsFrom(f.Axis, 0, speedAxis) {
		return api.ErrRange
	}
	if !fix.IsFrom(f.Unit, 0, units(c, f)-1) {
		return api.ErrRange
	}
	return nil
}

// units of an axis that there may be, of those that a fault is of.
func units(c api.Craft, f api.Fault) int {
	switch {
	case f.Kind != api.Loose:
		return api.Channels
	case f.Axis == speedAxis:
		return 0
	}
	// The craft need not be one that may be: fewer than none are none.
	return max(c.Axes[f.Axis].Surfaces, 0)
}

// CheckStep checks a step of a craft.
func CheckStep(c api.Craft, s api.Step) error {
	for i, a := range c.Axes {
		if !fix.IsFrom(s.Stick[i], -fcc.FullStick, fcc.FullStick) || !isPush(a, s.Push[i]) || !fix.IsFrom(s.Noise[i], 0, maxNoise) {
			return api.ErrRange
		}
	}
	if !fix.IsFrom(s.Speed, 0, api.MaxData) {
		return api.ErrRange
	}
	return nil
}

// isPush: n is no further from 0 than the axis' Push; of one below 0 nothing is, and the least number has no opposite.
func isPush(a api.Axis, n int) bool { return a.Push >= 0 && fix.IsFrom(n, -a.Push, a.Push) }

func check(c api.Craft, faults []api.Fault, steps []api.Step) error {
	if err := fcc.Check(c); err != nil {
		return err
	}
	if len(faults) > api.MaxFaults || len(steps) > api.MaxSteps {
		return api.ErrLimit
	}
	for _, f := range faults {
		if err := CheckFault(c, f); err != nil {
			return err
		}
	}
	for _, s := range steps {
		if err := CheckStep(c, s); err != nil {
			return err
		}
	}
	return nil
}
