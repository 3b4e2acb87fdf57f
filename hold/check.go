package hold

import (
	"fulmar/api"
	"fulmar/fix"
	"fulmar/law"
	"fulmar/table"
)

// Check a rule.
func Check(r Rule) error {
	if !isInRange(r) {
		return api.ErrRange
	}
	if r.Lo > r.Hi {
		return api.ErrForm
	}
	if err := table.Check(r.Gain); err != nil {
		return err
	}
	for _, gain := range r.Gain.Is {
		if !fix.IsFrom(gain, 0, api.MaxGain) {
			return api.ErrRange
		}
	}
	return nil
}

// isInRange: each number of a rule, for itself, may be.
func isInRange(r Rule) bool {
	return fix.IsFrom(r.Lo, -api.MaxEdge, api.MaxEdge) && fix.IsFrom(r.Hi, -api.MaxEdge, api.MaxEdge) &&
		fix.IsFrom(r.Turn, 0, api.MaxTravel) && fix.IsFrom(r.Build, 0, api.MaxGain) &&
		fix.IsFrom(r.Most, 1, api.MaxSurfaces*api.MaxTravel)
}

// checkAll that a frame is worked out from.
func checkAll(r Rule, s State, a Ask) error {
	if err := Check(r); err != nil {
		return err
	}
	if !fix.In(s.Aim, r.Span) || !fix.IsFrom(s.Held, -r.Most, r.Most) || !law.IsLaw(s.Law) {
		return api.ErrForm
	}
	if !fix.IsFrom(a.Stick, -fullStick, fullStick) || !law.IsLaw(a.Law) || !fix.IsFrom(a.Prev, -r.Most, r.Most) {
		return api.ErrRange
	}
	return nil
}
