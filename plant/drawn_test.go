package plant_test

import (
	"math"
	"math/rand"
	"reflect"
	"slices"
	"testing"

	"fulmar/api"
	"fulmar/fcc"
	"fulmar/vote"
	"fulmar/word"
)

// about 0, either way, n at most.
func about(d *rand.Rand, n int) int { return d.Intn(2*n+1) - n }

// drawnAxis: one that may be, often enough.
func drawnAxis(d *rand.Rand) api.Axis {
	a := api.Axis{
		Noise: d.Intn(9), Push: d.Intn(25), Surfaces: 2 + d.Intn(3), Travel: 20 + d.Intn(100), Slack: d.Intn(9),
		Confirm: 1 + d.Intn(5), Watch: 1 + d.Intn(5), Turn: d.Intn(200), Build: d.Intn(80),
	}
	a.Rate = 1 + d.Intn(a.Travel)
	a.Limit = 2*a.Noise + d.Intn(20)
	a.Lo, a.Hi = -d.Intn(3000), d.Intn(3000)
	a.Gain = api.Line{At: []int{0, 100, 101 + d.Intn(300)}, Is: []int{d.Intn(400), d.Intn(200), d.Intn(100)}}
	return a
}

// drawnCraft: one that may be.
func drawnCraft(d *rand.Rand, axis func(*rand.Rand) api.Axis) api.Craft {
	for {
		c := api.Craft{Axes: [2]api.Axis{axis(d), axis(d)}, Limit: d.Intn(30), Confirm: 1 + d.Intn(5)}
		if fcc.Check(c) == nil {
			return c
		}
	}
}

// drawnFault that may be, of anything.
func drawnFault(d *rand.Rand, c api.Craft) api.Fault {
	is := []int{about(d, 30), about(d, 3000), about(d, 300000), math.MaxInt, math.MinInt}[d.Intn(20)%7%5]
	f := api.Fault{At: d.Intn(50), Kind: d.Intn(5), Axis: d.Intn(3), Unit: d.Intn(3), Is: is}
	if f.Kind == loose {
		f.Axis = d.Intn(2)
		f.Unit = d.Intn(c.Axes[f.Axis].Surfaces)
	}
	return f
}

func drawnStep(d *rand.Rand, c api.Craft) api.Step {
	return api.Step{
		Stick:  [2]int{about(d, 100), about(d, 100)},
		Push:   [2]int{about(d, c.Axes[0].Push), about(d, c.Axes[1].Push)},
		Noise:  [2]int{d.Intn(5000), d.Intn(1 << 33)},
		Speed:  []int{d.Intn(400), d.Intn(wordMost + 1)}[d.Intn(6)/5],
		Ground: d.Intn(20) == 0,
	}
}

// oracle: K3 and K4, sentence by sentence, of a flight that may be.
func oracle(t *testing.T, c api.Craft, faults []api.Fault, steps []api.Step) []api.Report {
	state, _ := fcc.New(c)
	var out []api.Report
	var is [2]int
	var at [2][4]int
	for frame, s := range steps {
		channels, surfaces := map[[2]int]api.Fault{}, map[[2]int]api.Fault{}
		for _, f := range faults {
			if f.At <= frame && f.Kind == loose {
				surfaces[[2]int{f.Axis, f.Unit}] = f
			} else if f.At <= frame {
				channels[[2]int{f.Axis, f.Unit}] = f
			}
		}
		var words []uint32
		say := func(label, source, status, data int) {
			w, err := word.Pack(api.Reading{Label: label, Source: source, Status: status, Data: data})
			if err != nil {
				t.Fatalf("label %d of %d: %d", label, source, data)
			}
			words = append(words, w)
		}
		sense := func(axis, label, unit, data int) {
			f, ails := channels[[2]int{axis, unit}]
			f.Is = max(-262143, min(f.Is, 262143))
			data = max(-262144, min(data, 262143))
			switch {
			case !ails:
				say(label, unit, 3, data)
			case f.Kind == stuck:
				say(label, unit, 3, f.Is)
			case f.Kind == shift:
				say(label, unit, 3, max(-262144, min(data+f.Is, 262143)))
			case f.Kind == mark:
				say(label, unit, 0, data)
			}
		}
		for i, a := range c.Axes {
			b := 2*a.Noise + 1
			sense(i, i+1, 0, is[i]+s.Noise[i]%b-a.Noise)
			sense(i, i+1, 1, is[i]+s.Noise[i]/b%b-a.Noise)
			sense(i, i+1, 2, is[i]+s.Noise[i]/b/b%b-a.Noise)
			for k := range a.Surfaces {
				say([]int{16, 20}[i]+k, 3, 3, at[i][k])
			}
			say(32+i, 3, 3, s.Stick[i])
		}
		for k := range 3 {
			sense(2, 8, k, s.Speed)
		}
		if s.Ground {
			say(40, 3, 3, 1)
		}
		next, told, err := fcc.Step(c, state, words)
		if err != nil {
			t.Fatalf("fcc.Step(%v, %v): %v", c, state, err)
		}
		state = next
		r := api.Report{}
		for i, a := range c.Axes {
			is[i] += s.Push[i]
			for k := range a.Surfaces {
				order, _ := word.Unpack(told[i*c.Axes[0].Surfaces+k])
				f, isLoose := surfaces[[2]int{i, k}]
				switch {
				case order.Status != 3:
					at[i][k] = 0
				case isLoose:
					at[i][k] = max(-a.Travel, min(f.Is, a.Travel))
				default:
					at[i][k] = order.Data
				}
				is[i] += at[i][k]
				if !state.Servos[i][k].Out {
					r.Sound[i]++
				}
			}
			r.Left[i] = vote.Left(state.Banks[i])
		}
		last, _ := word.Unpack(told[len(told)-1])
		r.Is, r.At, r.Law = is, at, last.Data
		out = append(out, r)
	}
	return out
}

// K3, K4: drawn flights, against the chapter's sentences.
func TestDrawnFlights(t *testing.T) {
	d := rand.New(rand.NewSource(31))
	laws := [4]int{}
	for range 400 {
		c := drawnCraft(d, drawnAxis)
		var faults []api.Fault
		for range d.Intn(9) {
			faults = append(faults, drawnFault(d, c))
		}
		if d.Intn(8) == 0 {
			for k := range c.Axes[0].Surfaces {
				faults = append(faults, api.Fault{At: d.Intn(30), Kind: loose, Unit: k, Is: about(d, 3000)})
			}
		}
		var steps []api.Step
		for range d.Intn(80) {
			steps = append(steps, drawnStep(d, c))
		}
		got, want := fly(t, c, faults, steps...), oracle(t, c, faults, steps)
		if !slices.Equal(got, want) {
			t.Fatalf("Fly(%v, %v, %v): %v, not %v", c, faults, steps, got, want)
		}
		if len(got) > 0 {
			laws[got[len(got)-1].Law]++
		}
	}
	if slices.Min(laws[:]) < 3 {
		t.Errorf("few flights ended by a law: %v", laws)
	}
}

// Z2: no list that is handed in is written into, nor what stands behind it read; what a call answers is fresh, and the same each time.
func TestListsAreLeftAlone(t *testing.T) {
	d := rand.New(rand.NewSource(32))
	c := drawnCraft(d, drawnAxis)
	var faults []api.Fault
	for range 9 {
		faults = append(faults, drawnFault(d, c))
	}
	var steps []api.Step
	for range 40 {
		steps = append(steps, drawnStep(d, c))
	}
	faults, steps = append(faults, api.Fault{At: -1}, api.Fault{At: -2}), append(steps, api.Step{Speed: -1}, api.Step{Speed: -2})
	keptFaults, keptSteps := slices.Clone(faults), slices.Clone(steps)
	gain := c.Axes[0].Gain
	keptGain := api.Line{At: slices.Clone(gain.At), Is: slices.Clone(gain.Is)}
	first := fly(t, c, faults[:9], steps[:40]...)
	second := fly(t, c, faults[:9], steps[:40]...)
	if !slices.Equal(first, second) || len(first) != 40 {
		t.Errorf("%v, then %v", first, second)
	}
	for i := range first {
		first[i] = api.Report{}
	}
	if slices.Equal(first, second) {
		t.Error("two answers share their memory")
	}
	if !slices.Equal(faults, keptFaults) || !slices.Equal(steps, keptSteps) || !reflect.DeepEqual(gain, keptGain) {
		t.Error("a list was written into")
	}
}
