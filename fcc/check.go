package fcc

import (
	"errors"

	"fulmar/act"
	"fulmar/api"
	"fulmar/fix"
	"fulmar/guard"
	"fulmar/hold"
	"fulmar/law"
	"fulmar/vote"
)

// firstError: what the first one that has an error says, as the bare number that it is.
func firstError(calls ...func() error) error {
	for _, call := range calls {
		var wrong api.Errno
		if errors.As(call(), &wrong) {
			return wrong
		}
	}
	return nil
}

// Check a craft.
func Check(c api.Craft) error {
	var checks []func() error
	for _, a := range c.Axes {
		checks = append(checks, axisChecks(a)...)
	}
	checks = append(checks, func() error { return vote.CheckRule(speedRule(c)) })
	return firstError(checks...)
}

// axisChecks, in the order in which they are told; one is called only where those ahead of it found nothing, so that it may count on them.
func axisChecks(a api.Axis) []func() error {
	return []func() error{
		func() error { return checkRange(a) },
		func() error { return vote.CheckRule(voteRule(a)) },
		func() error { return act.CheckRule(actRule(a)) },
		func() error { return guard.Check(guardRule(a)) },
		func() error { return hold.Check(holdRule(a)) },
		func() error { return checkForm(a) },
	}
}

func checkRange(a api.Axis) error {
	if !fix.IsFrom(a.Surfaces, 2, api.MaxSurfaces) || !fix.IsFrom(a.Push, 0, api.MaxPush) {
		return api.ErrRange
	}
	return nil
}

// checkForm: two honest channels may be twice Noise apart, and an axis begins at 0.
func checkForm(a api.Axis) error {
	if a.Limit < 2*a.Noise || a.Lo > 0 || a.Hi < 0 {
		return api.ErrForm
	}
	return nil
}

// CheckState checks a state of a craft.
func CheckState(c api.Craft, s State) error {
	if err := Check(c); err != nil {
		return err
	}
	if firstError(stateChecks(c, s)...) != nil {
		return api.ErrForm
	}
	return nil
}

// stateChecks of a craft that may be.
func stateChecks(c api.Craft, s State) []func() error {
	checks := []func() error{func() error { return checkLaw(s.Law) }}
	for _, b := range s.Banks {
		checks = append(checks, func() error { return vote.Check(b) })
	}
	for i, a := range c.Axes {
		checks = append(checks,
			func() error { return checkServos(a, s.Servos[i]) },
			func() error { return checkHold(a, s.Holds[i]) },
		)
	}
	return checks
}

func checkLaw(n int) error {
	if !law.IsLaw(n) {
		return api.ErrForm
	}
	return nil
}

func checkServos(a api.Axis, l []act.Servo) error {
	if len(l) != a.Surfaces {
		return api.ErrForm
	}
	for _, s := range l {
		if err := act.Check(actRule(a), s); err != nil {
			return err
		}
	}
	return nil
}

// checkHold asks for nothing: an ask that may be, so that an error is the state's.
func checkHold(a api.Axis, s hold.State) error {
	_, _, err := hold.Want(holdRule(a), s, hold.Ask{})
	return err
}
