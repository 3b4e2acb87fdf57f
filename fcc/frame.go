package fcc

import (
	"fulmar/act"
	"fulmar/api"
	"fulmar/fix"
	"fulmar/guard"
	"fulmar/hold"
	"fulmar/law"
	"fulmar/share"
	"fulmar/vote"
	"fulmar/word"
)

const speedBank = api.Axes

// FullStick: what a stick says at its end; below 0 at the other one.
const FullStick = 100

// frame: the state, as it becomes step by step, of what craft, and by what is said.
type frame struct {
	State
	craft api.Craft
	said  []api.Reading
}

func newFrame(c api.Craft, s State, words []uint32) (*frame, error) {
	if err := CheckState(c, s); err != nil {
		return nil, err
	}
	said, _, err := word.Gather(words)
	if err != nil {
		return nil, err
	}
	f := &frame{State: s, craft: c, said: said}
	for i, l := range s.Servos {
		// Servos are changed in place from here on, and those of s are the caller's.
		f.Servos[i] = make([]act.Servo, len(l))
		copy(f.Servos[i], l)
	}
	return f, nil
}

// voteBanks: what was voted then stands in each bank as its Last.
func (f *frame) voteBanks() error {
	if err := f.voteBank(speedBank, SpeedLabel, speedRule(f.craft)); err != nil {
		return err
	}
	for i, a := range f.craft.Axes {
		if err := f.voteBank(i, PlaceLabel+i, voteRule(a)); err != nil {
			return err
		}
	}
	return nil
}

func (f *frame) voteBank(i, label int, r vote.Rule) error {
	next, _, err := vote.Step(f.Banks[i], r, f.channels(label))
	if err != nil {
		return err
	}
	f.Banks[i] = next
	return nil
}

// watchServos by where their surfaces are said to be.
func (f *frame) watchServos() error {
	for i, a := range f.craft.Axes {
		for k, s := range f.Servos[i] {
			next, err := act.Watch(actRule(a), s, f.says(UnitLabel(SurfaceLabel, i, k), CommonSource))
			if err != nil {
				return err
			}
			f.Servos[i][k] = next
		}
	}
	return nil
}

// chooseLaw by what is left.
func (f *frame) chooseLaw() error {
	var healths []law.Health
	for i := range f.craft.Axes {
		healths = append(healths, f.health(i))
	}
	wanted, err := law.Wanted(healths...)
	if err != nil {
		return err
	}
	// One that says nothing is a sample of 0: whoever doesn't know flies.
	isGround := f.says(GroundLabel, CommonSource).Is == 1
	next, err := law.Next(f.Law, wanted, isGround)
	if err != nil {
		return err
	}
	f.Law = next
	return nil
}

func (f *frame) health(axis int) law.Health {
	return law.Health{
		Channels: vote.Left(f.Banks[axis]),
		Sound:    act.Sound(f.Servos[axis]),
		Surfaces: f.craft.Axes[axis].Surfaces,
	}
}

func (f *frame) moveAxes() error {
	for i := range f.craft.Axes {
		if err := f.moveAxis(i); err != nil {
			return err
		}
	}
	return nil
}

func (f *frame) moveAxis(i int) error {
	a, servos := f.craft.Axes[i], f.Servos[i]
	ask := f.ask(i)
	want, held, err := hold.Want(holdRule(a), f.Holds[i], ask)
	if err != nil {
		return err
	}
	allowed, err := bounds(guardRule(a), ask)
	if err != nil {
		return err
	}
	places, err := share.Spread(actRule(a), servos, fix.Clip(want, allowed.Lo, allowed.Hi))
	if err != nil {
		return err
	}
	for k, to := range places {
		servos[k].Is = to
	}
	// It is told what was wanted ahead of the clip: what was kept back must not build up.
	told, err := hold.Told(holdRule(a), held, ask, want, share.Sum(servos))
	if err != nil {
		return err
	}
	f.Holds[i] = told
	return nil
}

// ask of an axis, by what was voted and by the law of this frame.
func (f *frame) ask(i int) hold.Ask {
	most := guardRule(f.craft.Axes[i]).Most
	return hold.Ask{
		Stick: fix.Clip(f.says(StickLabel+i, CommonSource).Is, -FullStick, FullStick),
		Is:    f.Banks[i].Last,
		Speed: f.Banks[speedBank].Last,
		Law:   f.Law,
		Prev:  fix.Clip(share.Sum(f.Servos[i]), -most, most),
	}
}

// bounds of how far an axis may be moved: under a law that guards nothing, by the rate alone.
func bounds(r guard.Rule, ask hold.Ask) (api.Span, error) {
	if law.Guarded(ask.Law) {
		return guard.Bounds(r, ask.Is, ask.Prev)
	}
	return api.Span{Lo: ask.Prev - r.Rate, Hi: ask.Prev + r.Rate}, nil
}
