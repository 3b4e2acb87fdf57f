package fcc

import (
	"fulmar/act"
	"fulmar/api"
	"fulmar/word"
)

// Labels of what the computer is told.
const (
	PlaceLabel   = 1  // and the axis: where it is, by each channel
	SpeedLabel   = 8  // by each channel
	SurfaceLabel = 16 // and 4 an axis, and the surface: where it is
	StickLabel   = 32 // and the axis
	GroundLabel  = 40 // 1: it stands on the ground
)

// Labels of what the computer tells.
const (
	MoveLabel = 64 // and 4 an axis, and the surface: where it should be
	LawLabel  = 80
)

// CommonSource says and tells whatever is no channel's: a channel's source is its number.
const CommonSource = api.Channels

// UnitLabel: the label of a surface, counted from the first one of axis 0.
func UnitLabel(first, axis, surface int) int { return first + api.MaxSurfaces*axis + surface }

// says: what a label's source says; nothing, if its status isn't normal.
func (f *frame) says(label, source int) api.Sample {
	r, ok := word.Find(f.said, label, source)
	if !ok || r.Status != api.Normal {
		return api.Sample{}
	}
	return api.Sample{There: true, Is: r.Data}
}

// channels of a label: what each of them says.
func (f *frame) channels(label int) [api.Channels]api.Sample {
	var in [api.Channels]api.Sample
	for source := range in {
		in[source] = f.says(label, source)
	}
	return in
}

// tell where the surfaces should be, and the law.
func (f *frame) tell() ([]uint32, error) { return word.PackAll(f.readings()) }

func (f *frame) readings() []api.Reading {
	var l []api.Reading
	for i, servos := range f.Servos {
		for k, s := range servos {
			l = append(l, api.Reading{Label: UnitLabel(MoveLabel, i, k), Source: CommonSource, Status: status(s), Data: s.Is})
		}
	}
	return append(l, api.Reading{Label: LawLabel, Source: CommonSource, Status: api.Normal, Data: f.Law})
}

// status of the word that moves a surface: one that is out isn't to be moved by it.
func status(s act.Servo) int {
	if s.Out {
		return 0
	}
	return api.Normal
}
