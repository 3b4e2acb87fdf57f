package console

import (
	"fmt"
	"reflect"
	"slices"
	"strings"
	"testing"

	"fulmar/api"
	"fulmar/fcc"
)

// playOn a new desk: what is ready there then.
func playOn(t *testing.T, lines ...string) *desk {
	t.Helper()
	d := newDesk()
	for _, line := range lines {
		if got := d.answer(commands(), line); got == "bad" {
			t.Fatalf("%q: %q", line, got)
		}
	}
	return d
}

// Q1: each field, by its name, of the axis that is named, and no other one.
func TestFieldsStandWhereTheyShould(t *testing.T) {
	names := strings.Fields("lo hi noise push surfaces travel rate slack limit confirm watch turn build")
	for axis := range api.Axes {
		want := fcc.Usual()
		want.Axes[axis] = api.Axis{Lo: 1, Hi: 2, Noise: 3, Push: 4, Surfaces: 5, Travel: 6, Rate: 7, Slack: 8, Limit: 9, Confirm: 10, Watch: 11, Turn: 12, Build: 13, Gain: want.Axes[axis].Gain}
		var lines []string
		for i, name := range names {
			lines = append(lines, fmt.Sprintf("set %d %s %d", axis, name, i+1))
		}
		for range 2 {
			if d := playOn(t, lines...); !reflect.DeepEqual(d.craft, want) {
				t.Errorf("axis %d: %v, not %v", axis, d.craft, want)
			}
			// In which order they are set plays no part.
			slices.Reverse(lines)
		}
	}
	if n := len(fields()); n != len(names) {
		t.Errorf("%d fields, not %d", n, len(names))
	}
}

// Q1: each number of a step stands where it should, the ground too, which no report tells.
func TestStepsStandAsTheyAreTold(t *testing.T) {
	d := playOn(t, "step 1 2 3 4 5 6 7 0 2", "step -1 -2 -3 -4 50 60 70 1 3")
	air := api.Step{Stick: [2]int{1, 2}, Push: [2]int{3, 4}, Noise: [2]int{5, 6}, Speed: 7}
	ground := api.Step{Stick: [2]int{-1, -2}, Push: [2]int{-3, -4}, Noise: [2]int{50, 60}, Speed: 70, Ground: true}
	if want := []api.Step{air, air, ground, ground, ground}; !slices.Equal(d.Steps, want) {
		t.Errorf("%v, not %v", d.Steps, want)
	}
	if len(d.Faults) != 0 || len(d.reports) != 0 || !reflect.DeepEqual(d.craft, fcc.Usual()) {
		t.Errorf("more than steps: %v", d)
	}
}

// Q1: each number of a fault stands where it should.
func TestFaultsStandAsTheyAreTold(t *testing.T) {
	d := playOn(t, "fault 40 3 2 1 -9999999999", "fault 0 4 1 2 7", "fault 301 0 0 0 0")
	want := []api.Fault{{At: 40, Kind: 3, Axis: 2, Unit: 1, Is: -9999999999}, {At: 0, Kind: 4, Axis: 1, Unit: 2, Is: 7}}
	if !slices.Equal(d.Faults, want) || len(d.Steps) != 0 || len(d.reports) != 0 {
		t.Errorf("%v, not %v", d, want)
	}
}

// Q1: a flight leaves what is ready as it is; clear leaves the craft alone.
func TestFlyAndClear(t *testing.T) {
	ready := []string{"set 0 turn 9", "fault 40 3 2 1 5", "step 1 2 3 4 5 6 7 0 2"}
	before, flown := playOn(t, ready...), playOn(t, append(ready, "fly", "at 0", "edges")...)
	if len(flown.reports) != 2 || !reflect.DeepEqual(before.Flight, flown.Flight) || !reflect.DeepEqual(before.craft, flown.craft) {
		t.Errorf("flown: %v, before: %v", flown, before)
	}
	cleared, want := playOn(t, append(ready, "fly", "clear")...), fcc.Usual()
	want.Axes[0].Turn = 9
	if len(cleared.Faults) != 0 || len(cleared.Steps) != 0 || len(cleared.reports) != 0 || !reflect.DeepEqual(cleared.craft, want) {
		t.Errorf("cleared: %v", cleared)
	}
}

// Q1: what is a number, and which one it is.
func TestNumber(t *testing.T) {
	for word, want := range map[string]int{"0": 0, "7": 7, "-7": -7, "10": 10, "-100": -100, "4294967296": 1 << 32, "9999999999": 9999999999, "-9999999999": -9999999999} {
		if n, err := number(word); err != nil || n != want {
			t.Errorf("%q: %d, %v", word, n, err)
		}
	}
	for _, word := range []string{"", "-", "-0", "00", "01", "-01", "+1", "--1", "1-", "10000000000", "-10000000000", "0x1", "1_0", "1 ", " 1", "\u0661"} {
		if n, err := number(word); err == nil || n != 0 {
			t.Errorf("%q: %d, %v", word, n, err)
		}
	}
}
