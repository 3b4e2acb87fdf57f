package console_test

import (
	"fmt"
	"slices"
	"strings"
	"testing"

	"fulmar/api"
	"fulmar/console"
	"fulmar/fcc"
	"fulmar/plant"
)

// A step that pushes axis 0 up, and its flight's first reports.
const (
	pushed      = "step 100 0 20 0 0 665 100 0 60"
	firstReport = "28 0 0 3 3 3 3"
)

// Q1: what a set is answered.
func TestSet(t *testing.T) {
	session(t, "edges of a number",
		"set 0 surfaces 4 => ok", "set 0 surfaces 5 => error 1", "set 0 surfaces 2 => ok", "set 0 surfaces 1 => error 1", "set 0 surfaces 3 => ok",
		"set 1 confirm 10 => ok", "set 1 confirm 11 => error 1", "set 1 confirm 1 => ok", "set 1 confirm 0 => error 1", "set 1 confirm -1 => error 1",
	)
	session(t, "what may not be together",
		"set 1 lo 1 => error 3", "set 1 lo 0 => ok", "set 1 hi -1 => error 3", "set 1 hi 4000 => ok",
		"set 0 limit 9 => error 3", "set 0 limit 10 => ok", "set 0 lo 0 => ok", "set 0 hi 1089 => error 3", "set 0 hi 1090 => ok", "set 0 hi 100001 => error 1",
	)
	session(t, "numbers of ten digits", "set 0 lo -9999999999 => error 1", "set 0 lo -4000 => ok", "set 1 push 9999999999 => error 1", "set 1 push 20 => ok")
	session(t, "all of the craft is asked, not the axis that was set",
		"set 0 rate 101 => error 1", "set 1 turn 5 => error 1", "set 1 lo 1 => error 1", "set 0 rate 30 => error 3", "set 1 lo -4000 => ok")
	session(t, "the axis' errors come ahead of the next axis'", "set 1 rate 101 => error 1", "set 0 lo 1 => error 3", "set 0 lo 0 => error 1")
}

// Q1: the field has the number, also where there is an error; a flight tells it.
func TestSetStays(t *testing.T) {
	session(t, "with an error", "fly => 0", "set 0 rate 101 => error 1", "fly => error 1", "fly => error 1", "set 0 travel 101 => ok", "fly => 0")
	session(t, "bad ones change nothing",
		"set 0 rate 101x => bad", "set 0 rate 0101 => bad", "set 2 rate 101 => bad", "set -1 rate 101 => bad", "set 0 rates 101 => bad", "set 0 rate => bad", "set 0 rate 101 1 => bad", "fly => 0")
	session(t, "what was flown stays as it was", pushed+" => ok", "fly => 60", "set 0 turn 0 => ok", "at 0 => "+firstReport, "set 0 lo 1 => error 3", "at 0 => "+firstReport, "edges => 28 3662 0 0")
}

// Q1: which axes and fields there are.
func TestSetOfWhatIsNone(t *testing.T) {
	for _, axis := range []string{"2", "3", "-1", "10", "9999999999", "-9999999999", "x", "", "00", "-0", "lo"} {
		session(t, "no axis", "set "+axis+" turn 60 => bad")
	}
	for _, f := range []string{"gain", "Lo", "LO", "l", "low", "", "lo.", "limits", "at", "is", "axes", "0", "span", "noise\x00"} {
		for axis := range 2 {
			session(t, "no field", fmt.Sprintf("set %d %s 60 => bad", axis, f))
		}
	}
}

// Q1: a fault is checked by the craft as it is set by then, and is one more, or isn't.
func TestFault(t *testing.T) {
	session(t, "edges",
		"fault 0 0 0 0 0 => ok", "fault 300 3 2 2 -9999999999 => ok", "fault 301 0 0 0 0 => error 1", "fault -1 0 0 0 0 => error 1",
		"fault 0 4 1 2 0 => ok", "fault 0 4 2 0 0 => error 1", "fault 0 5 0 0 0 => error 1", "fault 0 -1 0 0 0 => error 1",
		"fault 0 0 3 0 0 => error 1", "fault 0 0 -1 0 0 => error 1", "fault 0 0 0 3 0 => error 1", "fault 0 4 0 3 0 => error 1", "fault 0 0 0 -1 0 => error 1", "fly => 0")
	session(t, "by the craft",
		"fault 0 4 0 3 5 => error 1", "set 0 surfaces 4 => ok", "fault 0 4 0 3 5 => ok", "fault 0 4 1 3 5 => error 1", "fly => 0", "set 0 surfaces 3 => ok", "fly => error 1")
	session(t, "of a craft that may not be", "set 0 surfaces 9 => error 1", "fault 0 4 0 8 5 => ok", "fault 0 4 0 9 5 => error 1", "set 0 surfaces 4 => ok", "fly => error 1")
	twenty := slices.Repeat([]string{"fault 0 1 1 1 3000 => ok"}, 20)
	session(t, "twenty, and wrong ones", append(twenty, "fault 0 5 0 0 0 => error 1", "fault 0 0 0 0 x => bad", "fault 0 0 0 0 => bad", "fly => 0")...)
	session(t, "twenty-one", append(twenty, "fault 0 0 0 0 0 => ok", "fly => error 2", "fly => error 2", "clear => ok", "fly => 0")...)
}

// Q1: of a channel that has several faults the last one in the list holds: they stand in the order of their lines.
func TestFaultsStandInTheirOrder(t *testing.T) {
	session(t, "fine, then out", "fault 0 2 0 0 0 => ok", "fault 0 0 0 0 0 => ok", "step 0 0 0 0 665 665 0 0 3 => ok", "fly => 3", "at 1 => 0 0 0 3 3 3 3", "at 2 => 0 0 0 2 3 3 3")
	session(t, "out, then fine", "fault 0 0 0 0 0 => ok", "fault 0 2 0 0 0 => ok", "step 0 0 0 0 665 665 0 0 3 => ok", "fly => 3", "at 2 => 0 0 0 3 3 3 3")
}

// Q1: what a step is answered.
func TestStep(t *testing.T) {
	session(t, "edges",
		"step 100 -100 20 -20 0 8589934591 262143 1 1 => ok", "step -100 100 -20 20 8589934591 0 0 0 1 => ok",
		"step 101 0 0 0 0 0 0 0 1 => error 1", "step 0 -101 0 0 0 0 0 0 1 => error 1", "step 0 0 21 0 0 0 0 0 1 => error 1", "step 0 0 0 -21 0 0 0 0 1 => error 1",
		"step 0 0 0 0 8589934592 0 0 0 1 => error 1", "step 0 0 0 0 0 8589934592 0 0 1 => error 1", "step 0 0 0 0 -1 0 0 0 1 => error 1", "step 0 0 0 0 0 -1 0 0 1 => error 1",
		"step 0 0 0 0 0 0 -1 0 1 => error 1", "step 0 0 0 0 0 0 262144 0 1 => error 1", "step 9999999999 0 0 0 0 0 0 0 300 => error 1", "fly => 2")
	session(t, "the ground, and how often",
		"step 0 0 0 0 0 0 0 2 1 => bad", "step 0 0 0 0 0 0 0 -1 1 => bad", "step 0 0 0 0 0 0 0 0 0 => bad", "step 0 0 0 0 0 0 0 0 -1 => bad", "step 0 0 0 0 0 0 0 0 301 => bad",
		"step 0 0 0 0 0 0 0 0 9999999999 => bad", "step 0 0 0 0 0 0 0 9999999999 1 => bad", "fly => 0", "step 0 0 0 0 0 0 0 1 300 => ok", "fly => 300")
	session(t, "bad ahead of an error", "step 101 0 0 0 0 0 0 2 1 => bad", "step 101 0 0 0 0 0 0 0 301 => bad", "step 101 0 0 0 0 0 0 0 0 => bad", "step 101 0 0 0 0 0 0 0 x => bad")
	session(t, "by the craft",
		"set 0 push 15 => ok", "step 0 0 16 0 0 0 0 0 1 => error 1", "step 0 0 0 16 0 0 0 0 1 => ok", "step 0 0 15 0 0 0 0 0 1 => ok", "fly => 2",
		"set 0 push 14 => ok", "fly => error 1", "set 0 push 15 => ok", "fly => 2")
	session(t, "of a craft that may not be", "set 0 push 3000 => error 1", "step 0 0 3000 0 0 0 0 0 2 => ok", "step 0 0 3001 0 0 0 0 0 2 => error 1", "set 0 push 20 => ok", "fly => error 1")
}

// Q1: so many steps more, behind those that were.
func TestStepsStandInTheirOrder(t *testing.T) {
	session(t, "how many", "step 0 0 0 0 665 665 0 0 150 => ok", "step 0 0 0 0 665 665 0 0 149 => ok", "fly => 299", "step 0 0 0 0 665 665 0 0 1 => ok", "fly => 300",
		"step 0 0 0 0 665 665 0 0 1 => ok", "fly => error 2", "step 0 0 0 0 665 665 0 0 300 => ok", "fly => error 2", "edges => 0 0 0 0", "at 299 => 0 0 0 3 3 3 3", "at 300 => error 1")
	session(t, "one behind the other", "step 0 0 7 0 665 665 0 0 1 => ok", "step 0 0 0 9 665 665 0 0 1 => ok", "fly => 2", "at 0 => 7 0 0 3 3 3 3", "at 1 => 6 9 0 3 3 3 3")
}

// Q1: where a flight has an error, the reports of the one ahead stay; what is made ready stays in any case.
func TestFly(t *testing.T) {
	session(t, "nothing is ready", "fly => 0", "edges => error 5", "at 0 => error 1")
	session(t, "again", pushed+" => ok", "fly => 60", "fly => 60", "at 0 => "+firstReport)
	session(t, "an error of the craft", pushed+" => ok", "fly => 60", "set 1 lo 1 => error 3", "fly => error 3", "at 0 => "+firstReport, "at 59 => 3662 0 0 3 3 3 3", "edges => 28 3662 0 0",
		"set 1 lo -4000 => ok", "fly => 60")
	session(t, "an error of a step", pushed+" => ok", "fly => 60", "set 0 push 19 => ok", "fly => error 1", "edges => 28 3662 0 0")
	session(t, "an error of a fault", pushed+" => ok", "fly => 60", "set 1 surfaces 4 => ok", "fault 0 4 1 3 1 => ok", "set 1 surfaces 3 => ok", "fly => error 1", "edges => 28 3662 0 0")
	session(t, "too many steps", pushed+" => ok", "fly => 60", "step 0 0 0 0 0 0 0 0 241 => ok", "fly => error 2", "edges => 28 3662 0 0", "at 60 => error 1")
	session(t, "reports are those of the last flight", pushed+" => ok", "fly => 60", "fault 5 1 0 2 3000 => ok", "fault 20 4 1 0 100 => ok", "edges => 28 3662 0 0", "fly => 60", "edges => 28 3595 0 261")
}

// Q1: which frames there are.
func TestAt(t *testing.T) {
	session(t, "ahead of any flight", "at 0 => error 1", "at -1 => error 1", "at 9999999999 => error 1", pushed+" => ok", "at 0 => error 1")
	session(t, "edges", pushed+" => ok", "fly => 60", "at 0 => "+firstReport, "at 59 => 3662 0 0 3 3 3 3",
		"at 60 => error 1", "at 61 => error 1", "at -1 => error 1", "at -60 => error 1", "at 9999999999 => error 1", "at -9999999999 => error 1", "at -0 => bad", "at 00 => bad")
	session(t, "steps that weren't flown", "step 0 0 1 0 665 665 0 0 1 => ok", "fly => 1", "step 0 0 1 0 665 665 0 0 1 => ok", "at 0 => 1 0 0 3 3 3 3", "at 1 => error 1", "fly => 2", "at 1 => 2 0 0 3 3 3 3")
}

// Q1: the least and the greatest place of each axis, of the reports alone.
func TestEdges(t *testing.T) {
	session(t, "ahead of any flight", "edges => error 5", pushed+" => ok", "edges => error 5", "fly => 60", "edges => 28 3662 0 0")
	session(t, "one report", "step 0 0 7 -9 665 665 0 0 1 => ok", "fly => 1", "edges => 7 7 -9 -9")
	session(t, "up and down", "step 0 0 20 -20 665 665 0 0 1 => ok", "step 0 0 -20 20 665 665 0 0 3 => ok", "fly => 4",
		"at 0 => 20 -20 0 3 3 3 3", "at 1 => -3 5 0 3 3 3 3", "at 2 => -23 24 0 3 3 3 3", "at 3 => -39 38 0 3 3 3 3", "edges => -39 20 -20 38")
}

// Q1: faults, steps and reports are gone; the craft stays as it was set.
func TestClear(t *testing.T) {
	session(t, "nothing to clear", "clear => ok", "clear => ok", "fly => 0")
	session(t, "all is gone", pushed+" => ok", "fault 0 0 0 0 0 => ok", "fly => 60", "clear => ok", "at 0 => error 1", "edges => error 5", "fly => 0", "at 0 => error 1",
		pushed+" => ok", "fly => 60", "at 59 => 3662 0 0 3 3 3 3")
	session(t, "the craft stays", "set 0 rate 101 => error 1", "clear => ok", "fly => error 1", "set 0 travel 200 => ok", "clear => ok", "fly => 0", "set 0 travel 100 => error 1")
	session(t, "bad ones clear nothing", pushed+" => ok", "fly => 60", "clear  => bad", "clear 0 => bad", "Clear => bad", "at 0 => "+firstReport, "fly => 60")
}

// Z2: a session knows nothing of others.
func TestSessionsKnowNothingOfOthers(t *testing.T) {
	session(t, "a craft that may not be", "set 0 rate 101 => error 1", pushed+" => ok", "fault 0 0 0 0 0 => ok", "fly => error 1")
	session(t, "the usual craft", "fly => 0", "edges => error 5", pushed+" => ok", "fly => 60", "at 59 => 3662 0 0 3 3 3 3")
	session(t, "nothing is left", "at 0 => error 1", "fly => 0")
}

// Q1: each report, told by its frame, is plant.Fly's, of the craft, the faults and the steps that the lines say.
func TestReportsArePlantsOwn(t *testing.T) {
	c := fcc.Usual()
	c.Axes[0].Surfaces, c.Axes[0].Noise, c.Axes[1].Turn, c.Axes[1].Watch = 4, 7, 99, 5
	faults := []api.Fault{{At: 3, Kind: api.Stuck, Axis: 1, Unit: 2, Is: -900}, {At: 9, Kind: api.Loose, Axis: 0, Unit: 3, Is: -77}, {At: 12, Kind: api.Mark, Axis: 2, Unit: 1}, {At: 20, Kind: api.Loose, Axis: 1, Is: 60}}
	one := api.Step{Stick: [2]int{-80, 55}, Push: [2]int{-13, 17}, Noise: [2]int{3374, 12}, Speed: 250}
	other := api.Step{Stick: [2]int{60, -100}, Push: [2]int{4, -20}, Noise: [2]int{1, 1330}, Speed: 20, Ground: true}
	reports, err := plant.Fly(c, faults, append(slices.Repeat([]api.Step{one}, 25), slices.Repeat([]api.Step{other}, 30)...))
	if err != nil {
		t.Fatal(err)
	}
	text := "set 0 surfaces 4\nset 0 noise 7\nset 1 turn 99\nset 1 watch 5\n" +
		"fault 3 1 1 2 -900\nfault 9 4 0 3 -77\nfault 12 3 2 1 0\nfault 20 4 1 0 60\n" +
		"step -80 55 -13 17 3374 12 250 0 25\nstep 60 -100 4 -20 1 1330 20 1 30\nfly\nedges\n"
	least, most := reports[0].Is, reports[0].Is
	var want []string
	for i, r := range reports {
		text += fmt.Sprintf("at %d\n", i)
		want = append(want, fmt.Sprint(r.Is[0], r.Is[1], r.Law, r.Left[0], r.Left[1], r.Sound[0], r.Sound[1]))
		for k := range r.Is {
			least[k], most[k] = min(least[k], r.Is[k]), max(most[k], r.Is[k])
		}
	}
	got, err := console.Play(text)
	want = append(append(slices.Repeat([]string{"ok"}, 10), "55", fmt.Sprint(least[0], most[0], least[1], most[1])), want...)
	if err != nil || !slices.Equal(got, want) {
		t.Errorf("%s\nnot\n%s (%v)", strings.Join(got, "\n"), strings.Join(want, "\n"), err)
	}
}
