package fcc_test

import (
	"math/rand"
	"testing"

	"fulmar/api"
	"fulmar/fcc"
	"fulmar/guard"
	"fulmar/word"
)

// flight of a craft, for these tests alone: where its axes are, who lies, which surface does what it likes.
type flight struct {
	craft  api.Craft
	state  fcc.State
	places [2]int
	at     [2][4]int
	liars  [3]int // a channel of each three, or none (3)
	loose  [2]int // an axis (or none: 2) and a surface of it
	to     int    // where the loose one goes
	lean   [2]int // to which side gusts push and sticks pull
	d      *rand.Rand
}

// channel k of bank b says what it should, or, if it lies, anything, or nothing.
func (f *flight) channel(b, k, is int) []api.Reading {
	if f.liars[b] != k {
		return []api.Reading{say([]int{1, 2, 8}[b], k, is)}
	}
	r := say([]int{1, 2, 8}[b], k, is+about(f.d, []int{30, 3000, 200000}[f.d.Intn(3)]))
	switch f.d.Intn(5) {
	case 0:
		return nil
	case 1:
		r.Status = f.d.Intn(3)
	}
	return []api.Reading{r}
}

// words of a frame.
func (f *flight) words(t *testing.T) []uint32 {
	var l []api.Reading
	for i, a := range f.craft.Axes {
		for k := range 3 {
			noise := []int{-f.lean[i] * a.Noise, about(f.d, a.Noise)}[f.d.Intn(2)]
			l = append(l, f.channel(i, k, f.places[i]+noise)...)
		}
		for k := range a.Surfaces {
			l = append(l, say(16+4*i+k, 3, f.at[i][k]))
		}
		l = append(l, say(32+i, 3, []int{f.lean[i] * 100, about(f.d, 100)}[f.d.Intn(4)/3]))
	}
	speed := f.d.Intn(500)
	for k := range 3 {
		l = append(l, f.channel(2, k, speed)...)
	}
	return pack(t, l...)
}

// frame: the surfaces go where they are told (a loose one doesn't), and the axes by that, and by gusts.
func (f *flight) frame(t *testing.T) {
	next, told, err := fcc.Step(f.craft, f.state, f.words(t))
	if err != nil {
		t.Fatalf("Step(%v, %v): %v", f.craft, f.state, err)
	}
	f.state = next
	said, _, _ := word.Gather(told)
	for i, a := range f.craft.Axes {
		sum := []int{f.lean[i] * a.Push, about(f.d, a.Push)}[f.d.Intn(4)/3]
		for k := range a.Surfaces {
			r, _ := word.Find(said, 64+4*i+k, 3)
			f.at[i][k] = r.Data
			switch {
			case r.Status != 3:
				f.at[i][k] = 0
			case f.loose == [2]int{i, k}:
				f.at[i][k] = f.to
			}
			sum += f.at[i][k]
		}
		f.places[i] += sum
	}
}

// begin a flight of a drawn craft.
func begin(t *testing.T, d *rand.Rand) *flight {
	c := drawnCraft(d)
	f := &flight{craft: c, state: state(t, c), loose: [2]int{2, 0}, d: d}
	f.lean = [2]int{1 - 2*d.Intn(2), 1 - 2*d.Intn(2)}
	f.liars = [3]int{d.Intn(4), d.Intn(4), d.Intn(4)}
	return f
}

// J1 to J4 together: whatever sticks ask, gusts push, noise and one channel of each three say, no axis leaves its envelope, and the law is the normal one.
func TestNoAxisLeavesItsEnvelope(t *testing.T) {
	d := rand.New(rand.NewSource(13))
	for range 300 {
		f := begin(t, d)
		for range 120 {
			f.frame(t)
			for i, a := range f.craft.Axes {
				if f.places[i] < a.Lo || f.places[i] > a.Hi || f.state.Law != normal {
					t.Fatalf("%v: at %v, by the law %d", f.craft, f.places, f.state.Law)
				}
			}
			if d.Intn(60) == 0 {
				f.lean[d.Intn(2)] *= -1
			}
		}
	}
}

// J1 to J4 together: with one surface that is loose besides, its axis leaves its envelope by no more than that one can do till it is out, and the way to stop.
func TestALooseSurface(t *testing.T) {
	d := rand.New(rand.NewSource(14))
	out := 0
	for range 300 {
		f := begin(t, d)
		i := d.Intn(2)
		a := f.craft.Axes[i]
		n := a.Surfaces - 1
		way, err := guard.Brake(guard.Rule{Lo: a.Lo, Hi: a.Hi, Noise: a.Noise, Push: a.Push + a.Slack, Most: n * a.Travel, Rate: n * a.Rate}, n*a.Travel)
		if err != nil {
			t.Fatal(err)
		}
		most, begins := 2*a.Travel*a.Watch+way, d.Intn(80)
		for frame := range 120 {
			if frame == begins {
				f.loose, f.to = [2]int{i, d.Intn(a.Surfaces)}, []int{f.lean[i] * a.Travel, about(d, a.Travel)}[d.Intn(2)]
			}
			f.frame(t)
			if f.state.Law > alternate || f.places[i] < a.Lo-most || f.places[i] > a.Hi+most {
				t.Fatalf("%v: at %v, by the law %d", f.craft, f.places, f.state.Law)
			}
			other := f.craft.Axes[1-i]
			if f.places[1-i] < other.Lo || f.places[1-i] > other.Hi {
				t.Fatalf("%v: the other axis at %v", f.craft, f.places)
			}
		}
		out += f.state.Law
	}
	if out < 200 {
		t.Errorf("only %d loose surfaces were found out", out)
	}
}
