package console

import (
	"slices"
	"strconv"

	"fulmar/api"
	"fulmar/fcc"
	"fulmar/fix"
	"fulmar/plant"
)

// desk of a session: the flight that is made ready, of what craft, and the reports of the one that was flown last.
type desk struct {
	api.Flight
	craft   api.Craft
	reports []api.Report
}

func newDesk() *desk { return &desk{craft: fcc.Usual()} }

// set AXIS FIELD NUMBER. The field has the number even if the craft may not be then: the way to a craft that may be leads over such ones.
func (d *desk) set(words []string) (string, error) {
	n, err := numbers(words[0], words[2])
	f, ok := fields()[words[1]]
	if err != nil || !ok || !fix.IsFrom(n[0], 0, api.Axes-1) {
		return "", errBad
	}
	*f.of(&d.craft.Axes[n[0]]) = n[1]
	return done, fcc.Check(d.craft)
}

// fault AT KIND AXIS UNIT IS.
func (d *desk) fault(words []string) (string, error) {
	n, err := numbers(words...)
	if err != nil {
		return "", err
	}
	f := api.Fault{At: n[0], Kind: n[1], Axis: n[2], Unit: n[3], Is: n[4]}
	if err := plant.CheckFault(d.craft, f); err != nil {
		return "", err
	}
	d.Faults = append(d.Faults, f)
	return done, nil
}

// step STICK STICK PUSH PUSH NOISE NOISE SPEED GROUND TIMES.
func (d *desk) step(words []string) (string, error) {
	n, err := numbers(words...)
	if err != nil || !fix.IsFrom(n[7], 0, 1) || !fix.IsFrom(n[8], 1, api.MaxSteps) {
		return "", errBad
	}
	s := api.Step{
		Stick:  [api.Axes]int{n[0], n[1]},
		Push:   [api.Axes]int{n[2], n[3]},
		Noise:  [api.Axes]int{n[4], n[5]},
		Speed:  n[6],
		Ground: n[7] == 1,
	}
	if err := plant.CheckStep(d.craft, s); err != nil {
		return "", err
	}
	d.Steps = append(d.Steps, slices.Repeat([]api.Step{s}, n[8])...)
	return done, nil
}

// fly what is ready: too many faults or steps are found out here, and so is what no longer fits the craft.
func (d *desk) fly([]string) (string, error) {
	reports, err := plant.Fly(d.craft, d.Faults, d.Steps)
	if err != nil {
		return "", err
	}
	d.reports = reports
	return strconv.Itoa(len(reports)), nil
}

// at FRAME.
func (d *desk) at(words []string) (string, error) {
	n, err := number(words[0])
	if err != nil {
		return "", err
	}
	if !fix.IsFrom(n, 0, len(d.reports)-1) {
		return "", api.ErrRange
	}
	r := d.reports[n]
	return tellNumbers(r.Is[0], r.Is[1], r.Law, r.Left[0], r.Left[1], r.Sound[0], r.Sound[1]), nil
}

func (d *desk) edges([]string) (string, error) {
	if len(d.reports) == 0 {
		return "", api.ErrState
	}
	var l []int
	for axis := range api.Axes {
		s := d.went(axis)
		l = append(l, s.Lo, s.Hi)
	}
	return tellNumbers(l...), nil
}

// went: from where to where an axis was, in all reports, of which there is one at least.
func (d *desk) went(axis int) api.Span {
	first := d.reports[0].Is[axis]
	s := api.Span{Lo: first, Hi: first}
	for _, r := range d.reports {
		s.Lo, s.Hi = min(s.Lo, r.Is[axis]), max(s.Hi, r.Is[axis])
	}
	return s
}

// clear the desk; the craft stays as it was set.
func (d *desk) clear([]string) (string, error) {
	d.Flight, d.reports = api.Flight{}, nil
	return done, nil
}
