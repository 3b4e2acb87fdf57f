package plant

import (
	"slices"
	"testing"

	"fulmar/api"
	"fulmar/fcc"
)

// K3: all that is said in a frame. (That it stands on the ground can't be seen in a report: what is out stays out, so that the law that is wanted never gets better.)
func TestWhatIsSaid(t *testing.T) {
	c := fcc.Usual()
	c.Axes[1].Surfaces = 2
	f := &flight{
		craft: c, now: 4, is: [2]int{700, -300}, at: [2][4]int{{10, 20, 30}, {-5, 5}},
		faults: []api.Fault{{Kind: api.Quiet, Axis: 2, Unit: 1}, {At: 4, Kind: api.Mark, Axis: 1, Unit: 2}, {At: 5, Kind: api.Quiet}},
	}
	s := api.Step{Stick: [2]int{40, -60}, Noise: [2]int{5 + 11*6 + 121*10, 5 + 11*0 + 121*5}, Speed: 250}
	say := func(label, source, data int) api.Reading {
		return api.Reading{Label: label, Source: source, Status: 3, Data: data}
	}
	want := []api.Reading{
		say(1, 0, 700), say(1, 1, 701), say(1, 2, 705), say(16, 3, 10), say(17, 3, 20), say(18, 3, 30), say(32, 3, 40),
		say(2, 0, -300), say(2, 1, -305), {Label: 2, Source: 2, Data: -300}, say(20, 3, -5), say(21, 3, 5), say(33, 3, -60),
		say(8, 0, 250), say(8, 2, 250),
	}
	if got := f.said(s); !slices.Equal(got, want) {
		t.Errorf("in the air: %v", got)
	}
	s.Ground = true
	if got := f.said(s); !slices.Equal(got, append(want, say(40, 3, 1))) {
		t.Errorf("on the ground: %v", got)
	}
}
