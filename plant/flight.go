package plant

import (
	"fulmar/act"
	"fulmar/api"
	"fulmar/fcc"
	"fulmar/fix"
	"fulmar/vote"
	"fulmar/word"
)

// flight of a craft, between frames.
type flight struct {
	craft  api.Craft
	faults []api.Fault
	state  fcc.State
	now    int // which frame it is
	is     [api.Axes]int
	at     [api.Axes][api.MaxSurfaces]int
}

// part of a craft that a fault is of: a channel, or a surface.
type part struct {
	axis, unit int
	isSurface  bool
}

func partOf(f api.Fault) part {
	return part{axis: f.Axis, unit: f.Unit, isSurface: f.Kind == api.Loose}
}

// fault of a part: of those that have begun the last one in the list, whichever began last.
func (f *flight) fault(p part) (api.Fault, bool) {
	var last api.Fault
	found := false
	for _, x := range f.faults {
		if x.At <= f.now && partOf(x) == p {
			last, found = x, true
		}
	}
	return last, found
}

// ailment of a channel, in this frame.
func (f *flight) ailment(axis, channel int) ailment {
	if x, ok := f.fault(part{axis: axis, unit: channel}); ok {
		return ailmentOf(x)
	}
	return well{}
}

// frame: what is said, what the computer answers to it, what the craft does by that.
func (f *flight) frame(s api.Step) error {
	words, err := word.PackAll(f.said(s))
	if err != nil {
		return err
	}
	state, words, err := fcc.Step(f.craft, f.state, words)
	if err != nil {
		return err
	}
	told, _, err := word.Gather(words)
	if err != nil {
		return err
	}
	f.state = state
	for i := range f.craft.Axes {
		f.move(i, told, s.Push[i])
	}
	f.now++
	return nil
}

// said in a frame, by channels, surfaces and sticks.
func (f *flight) said(s api.Step) []api.Reading {
	var l []api.Reading
	for i, a := range f.craft.Axes {
		for k, noise := range noises(a, s.Noise[i]) {
			l = append(l, f.channel(i, k, fcc.PlaceLabel+i, f.is[i]+noise)...)
		}
		for k, at := range f.at[i][:a.Surfaces] {
			l = append(l, common(fcc.UnitLabel(fcc.SurfaceLabel, i, k), at))
		}
		l = append(l, common(fcc.StickLabel+i, s.Stick[i]))
	}
	for k := range api.Channels {
		l = append(l, f.channel(speedAxis, k, fcc.SpeedLabel, s.Speed)...)
	}
	if s.Ground {
		l = append(l, common(fcc.GroundLabel, 1))
	}
	return l
}

// noises of an axis' channels: digits of n, about 0.
func noises(a api.Axis, n int) [api.Channels]int {
	var l [api.Channels]int
	base := 2*a.Noise + 1
	for k := range l {
		l[k] = n%base - a.Noise
		n /= base
	}
	return l
}

// channel of an axis: what comes of what it should say.
func (f *flight) channel(axis, k, label, is int) []api.Reading {
	// An axis may be further away than a word can tell.
	r := api.Reading{Label: label, Source: k, Status: api.Normal, Data: word.Hold(is)}
	return send(f.ailment(axis, k), r)
}

// common: what is said by no channel.
func common(label, is int) api.Reading {
	return api.Reading{Label: label, Source: fcc.CommonSource, Status: api.Normal, Data: is}
}

// move an axis by where its surfaces go, and by a gust.
func (f *flight) move(i int, told []api.Reading, push int) {
	for k := range f.craft.Axes[i].Surfaces {
		f.at[i][k] = f.place(i, k, told)
		f.is[i] += f.at[i][k]
	}
	f.is[i] += push
}

// place where a surface goes by what it is told; a loose one does as it likes, unless it is out.
func (f *flight) place(i, k int, told []api.Reading) int {
	r, ok := word.Find(told, fcc.UnitLabel(fcc.MoveLabel, i, k), fcc.CommonSource)
	if !ok || r.Status != api.Normal {
		return 0
	}
	if x, ok := f.fault(part{axis: i, unit: k, isSurface: true}); ok {
		travel := f.craft.Axes[i].Travel
		return fix.Clip(x.Is, -travel, travel)
	}
	return r.Data
}

// report of the frame that was flown last.
func (f *flight) report() api.Report {
	r := api.Report{Is: f.is, Law: f.state.Law, At: f.at}
	for i := range f.craft.Axes {
		r.Left[i] = vote.Left(f.state.Banks[i])
		r.Sound[i] = act.Sound(f.state.Servos[i])
	}
	return r
}
