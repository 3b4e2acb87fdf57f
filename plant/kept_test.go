package plant_test

import (
	"math/rand"
	"testing"

	"fulmar/api"
	"fulmar/guard"
)

// watch of an axis' guard, as J1 has it.
func watch(a api.Axis) guard.Rule {
	n := a.Surfaces - 1
	return guard.Rule{Lo: a.Lo, Hi: a.Hi, Noise: a.Noise, Push: a.Push + a.Slack, Most: n * a.Travel, Rate: n * a.Rate}
}

// tightAxis: one whose envelope is as narrow as may be, or near that, whose gusts are as strong as may be; small or as great as may be; 0 is anywhere in it, or at its edge. (Not always one that may be.)
func tightAxis(d *rand.Rand) api.Axis {
	size := []int{10, 100, 1000}[d.Intn(3)]
	a := api.Axis{
		Surfaces: 2 + d.Intn(3), Travel: 1 + d.Intn(size), Noise: d.Intn(size + 1), Confirm: 1 + d.Intn(10), Watch: 1 + d.Intn(10),
		Turn: d.Intn(1001), Build: d.Intn(300), Gain: api.Line{At: []int{0, 300}, Is: []int{d.Intn(1000), d.Intn(1000)}},
	}
	a.Rate = 1 + d.Intn(a.Travel)
	a.Limit = 2*a.Noise + d.Intn(2)*d.Intn(50)
	a.Slack = d.Intn(a.Rate + 1)
	a.Push = min(max((a.Surfaces-1)*a.Rate-a.Slack-d.Intn(2)*d.Intn(9), 0), 1000)
	a.Lo, a.Hi = -100000, 100000
	r := watch(a)
	way, _ := guard.Brake(r, r.Most)
	wide := 2*(a.Noise+way) + d.Intn(2)*d.Intn(3000)
	a.Lo = -[]int{0, wide / 2, wide, d.Intn(wide + 1)}[d.Intn(4)]
	a.Hi = a.Lo + wide
	return a
}

// liars: a channel of each three, or none, with any number of faults.
func liars(d *rand.Rand) []api.Fault {
	var l []api.Fault
	for axis := range 3 {
		unit := d.Intn(3)
		for range d.Intn(5) {
			l = append(l, api.Fault{At: d.Intn(200), Kind: d.Intn(4), Axis: axis, Unit: unit, Is: about(d, []int{20, 2000, 300000}[d.Intn(3)])})
		}
	}
	return l
}

// leaning steps: sticks pull to one side, gusts push there, and noise hides it, most often; till they turn.
func leaning(d *rand.Rand, c api.Craft, n int) []api.Step {
	var steps []api.Step
	var lean [2]int
	for i := range n {
		s := drawnStep(d, c)
		s.Ground = false
		for axis, a := range c.Axes {
			if i == 0 || d.Intn(80) == 0 {
				lean[axis] = 1 - 2*d.Intn(2)
			}
			if d.Intn(20) > 0 {
				s.Stick[axis], s.Push[axis] = 100*lean[axis], a.Push*lean[axis]
			}
			hidden := -a.Noise * lean[axis]
			if d.Intn(10) > 0 {
				s.Noise[axis] = noise(a, hidden, hidden, hidden)
			}
		}
		steps = append(steps, s)
	}
	return steps
}

// beyond: how far an axis is beyond its envelope.
func beyond(a api.Axis, is int) int { return max(a.Lo-is, is-a.Hi) }

// K5: whatever sticks, pushes, noise and one channel of each three do, each axis is in its envelope, by the normal law, and no servo is out.
func TestNoStallNoOverbank(t *testing.T) {
	d := rand.New(rand.NewSource(51))
	near, out := 0, 0
	for n := range 300 {
		c := drawnCraft(d, []func(*rand.Rand) api.Axis{tightAxis, drawnAxis}[n%2])
		faults := liars(d)
		l := fly(t, c, faults, leaning(d, c, 300)...)
		most := -1 << 30
		for frame, r := range l {
			for i, a := range c.Axes {
				if beyond(a, r.Is[i]) > 0 || r.Law != api.NormalLaw || r.Sound[i] != a.Surfaces || r.Left[i] < 2 {
					t.Fatalf("%v with %v, frame %d: %v", c, faults, frame, r)
				}
				most = max(most, beyond(a, r.Is[i]))
			}
		}
		if most > -10 {
			near++
		}
		out += 6 - l[299].Left[0] - l[299].Left[1]
	}
	if near < 100 || out < 100 {
		t.Errorf("%d flights came near an edge, %d channels were out", near, out)
	}
}

// K5: with one loose surface besides its axis leaves its envelope by no more than that one does till it is out, and the way to stop; the other axis doesn't.
func TestNoStallNoOverbankWithALooseSurface(t *testing.T) {
	d := rand.New(rand.NewSource(52))
	out, left := 0, 0
	for n := range 400 {
		c := drawnCraft(d, []func(*rand.Rand) api.Axis{tightAxis, drawnAxis}[n%2])
		i := d.Intn(2)
		a := c.Axes[i]
		faults, unit := liars(d), d.Intn(a.Surfaces)
		for range 1 + d.Intn(3) {
			is := []int{a.Travel, -a.Travel, about(d, a.Travel), about(d, a.Slack)}[d.Intn(4)]
			faults = append(faults, api.Fault{At: d.Intn(200), Kind: loose, Axis: i, Unit: unit, Is: is})
		}
		way, err := guard.Brake(watch(a), watch(a).Most)
		if err != nil {
			t.Fatal(err)
		}
		most := 2*a.Travel*a.Watch + way
		for frame, r := range fly(t, c, faults, leaning(d, c, 300)...) {
			if beyond(a, r.Is[i]) > most || r.Law > api.AlternateLaw || r.Sound[i] < a.Surfaces-1 {
				t.Fatalf("%v with %v, frame %d: %v, beyond by %d at most", c, faults, frame, r, most)
			}
			if beyond(c.Axes[1-i], r.Is[1-i]) > 0 || r.Sound[1-i] != c.Axes[1-i].Surfaces {
				t.Fatalf("%v with %v, frame %d: %v: the other axis", c, faults, frame, r)
			}
			if frame == 299 {
				out += r.Law
			}
			if beyond(a, r.Is[i]) > 0 {
				left++
			}
		}
	}
	if out < 200 || left < 100 {
		t.Errorf("%d surfaces were out, in %d frames an axis was outside", out, left)
	}
}
