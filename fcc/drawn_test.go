package fcc_test

import (
	"math"
	"math/rand"
	"reflect"
	"slices"
	"testing"

	"fulmar/act"
	"fulmar/api"
	"fulmar/fcc"
	"fulmar/guard"
	"fulmar/hold"
	"fulmar/law"
	"fulmar/share"
	"fulmar/vote"
	"fulmar/word"
)

// drawnAxis: one that may be, most often.
func drawnAxis(d *rand.Rand) api.Axis {
	a := api.Axis{
		Noise: d.Intn(9), Push: d.Intn(25), Surfaces: 2 + d.Intn(3), Travel: 20 + d.Intn(100), Slack: d.Intn(9),
		Confirm: 1 + d.Intn(5), Watch: 1 + d.Intn(5), Turn: d.Intn(200), Build: d.Intn(80),
	}
	a.Rate = 1 + d.Intn(a.Travel)
	a.Limit = 2*a.Noise + d.Intn(20)
	a.Lo, a.Hi = -d.Intn(3000), d.Intn(3000)
	a.Gain = api.Line{At: []int{0, 100, 100 + 1 + d.Intn(300)}, Is: []int{d.Intn(400), d.Intn(200), d.Intn(100)}}
	return a
}

// drawnCraft: one that may be.
func drawnCraft(d *rand.Rand) api.Craft {
	for {
		c := api.Craft{Axes: [2]api.Axis{drawnAxis(d), drawnAxis(d)}, Limit: d.Intn(30), Confirm: 1 + d.Intn(5)}
		if fcc.Check(c) == nil {
			return c
		}
	}
}

// about 0, either way, n at most.
func about(d *rand.Rand, n int) int { return d.Intn(2*n+1) - n }

// drawnState of a craft: any that may be.
func drawnState(d *rand.Rand, c api.Craft) fcc.State {
	s := fcc.State{Law: d.Intn(8) % 5 % 4}
	for b := range s.Banks {
		s.Banks[b].Last = about(d, 4000)
		for k := range 3 {
			s.Banks[b].Bad[k] = d.Intn(4)
			s.Banks[b].Out[k] = d.Intn(8) == 0
		}
	}
	for i, a := range c.Axes {
		for range a.Surfaces {
			v := act.Servo{Is: about(d, a.Travel), Bad: d.Intn(a.Watch)}
			if d.Intn(10) == 0 {
				v = act.Servo{Bad: a.Watch, Out: true}
			}
			s.Servos[i] = append(s.Servos[i], v)
		}
		most := (a.Surfaces - 1) * a.Travel
		s.Holds[i] = hold.State{Aim: a.Lo + d.Intn(a.Hi-a.Lo+1), Held: about(d, most), Law: d.Intn(8) % 5 % 4}
	}
	return s
}

// drawnWords: what may be said in a frame, with liars, bits that are turned, words that are lost, and in any order.
func drawnWords(d *rand.Rand, c api.Craft, s fcc.State) []uint32 {
	var l []uint32
	add := func(label, source, data int) {
		r := say(label, source, data)
		if d.Intn(20) == 0 {
			r.Status = d.Intn(3)
		}
		w, _ := word.Pack(r)
		if d.Intn(40) == 0 {
			w ^= 1 << d.Intn(32)
		}
		if d.Intn(20) > 0 {
			l = append(l, w)
		}
	}
	for i, a := range c.Axes {
		x := []int{a.Lo + d.Intn(a.Hi-a.Lo+1), a.Lo + d.Intn(50), a.Hi - d.Intn(50), about(d, 9000)}[d.Intn(4)]
		for k := range 3 {
			add(1+i, k, x+[]int{0, about(d, a.Noise), about(d, 300)}[d.Intn(5)%3])
		}
		for k, v := range s.Servos[i] {
			add(16+4*i+k, 3, v.Is+[]int{0, 0, 0, about(d, a.Slack), about(d, 50)}[d.Intn(5)])
		}
		add(32+i, 3, about(d, 150))
	}
	for k := range 3 {
		add(8, k, d.Intn(40)+200)
	}
	add(40, 3, d.Intn(4))
	d.Shuffle(len(l), func(i, j int) { l[i], l[j] = l[j], l[i] })
	if d.Intn(4) == 0 {
		l = append(l, l...)
	}
	return l[:min(len(l), 64)]
}

// oracle: J3 and J4, sentence by sentence, of a state and words that may be.
func oracle(c api.Craft, s fcc.State, words []uint32) (fcc.State, []uint32) {
	said, _, _ := word.Gather(words)
	says := func(label, source int) api.Sample {
		if r, ok := word.Find(said, label, source); ok && r.Status == 3 {
			return api.Sample{There: true, Is: r.Data}
		}
		return api.Sample{}
	}
	var voted [3]int
	for b, label := range []int{1, 2, 8} {
		r := vote.Rule{Limit: c.Limit, Confirm: c.Confirm}
		if b < 2 {
			r = vote.Rule{Limit: c.Axes[b].Limit, Confirm: c.Axes[b].Confirm}
		}
		next, v, _ := vote.Step(s.Banks[b], r, [3]api.Sample{says(label, 0), says(label, 1), says(label, 2)})
		s.Banks[b], voted[b] = next, v.Is
	}
	worst := 0
	for i, a := range c.Axes {
		servos, sound := []act.Servo{}, 0
		for k, v := range s.Servos[i] {
			v, _ = act.Watch(act.Rule{Travel: a.Travel, Rate: a.Rate, Slack: a.Slack, Confirm: a.Watch}, v, says([]int{16, 20}[i]+k, 3))
			servos = append(servos, v)
			if !v.Out {
				sound++
			}
		}
		s.Servos[i] = servos
		asked, _ := law.Wanted(law.Health{Channels: vote.Left(s.Banks[i]), Sound: sound, Surfaces: a.Surfaces})
		worst = max(worst, asked)
	}
	if ground := says(40, 3); ground.There && ground.Is == 1 {
		s.Law = worst
	} else {
		s.Law = max(s.Law, worst)
	}
	var told []uint32
	for i, a := range c.Axes {
		s.Servos[i], s.Holds[i] = oracleMove(a, s.Servos[i], s.Holds[i], s.Law, says(32+i, 3), voted[i], voted[2])
		for k, v := range s.Servos[i] {
			r := api.Reading{Label: []int{64, 68}[i] + k, Source: 3, Status: 3, Data: v.Is}
			if v.Out {
				r.Status = 0
			}
			w, _ := word.Pack(r)
			told = append(told, w)
		}
	}
	w, _ := word.Pack(say(80, 3, s.Law))
	return s, append(told, w)
}

// oracleMove: J4.
func oracleMove(a api.Axis, servos []act.Servo, held hold.State, by int, stick api.Sample, place, speed int) ([]act.Servo, hold.State) {
	n := a.Surfaces - 1
	most, rate := n*a.Travel, n*a.Rate
	prev := min(max(share.Sum(servos), -most), most)
	rule := hold.Rule{Span: api.Span{Lo: a.Lo, Hi: a.Hi}, Turn: a.Turn, Build: a.Build, Most: most, Gain: a.Gain}
	ask := hold.Ask{Is: place, Speed: speed, Law: by, Prev: prev}
	if stick.There {
		ask.Stick = min(max(stick.Is, -100), 100)
	}
	want, held, _ := hold.Want(rule, held, ask)
	move := min(max(want, prev-rate), prev+rate)
	if by <= 1 {
		move, _ = guard.Clamp(guard.Rule{Lo: a.Lo, Hi: a.Hi, Noise: a.Noise, Push: a.Push + a.Slack, Most: most, Rate: rate}, place, prev, want)
	}
	surface := act.Rule{Travel: a.Travel, Rate: a.Rate, Slack: a.Slack, Confirm: a.Watch}
	places, _ := share.Spread(surface, servos, move)
	moved := []act.Servo{}
	for k, v := range servos {
		v, _ = act.Move(surface, v, places[k])
		moved = append(moved, v)
	}
	held, _ = hold.Told(rule, held, ask, want, share.Sum(moved))
	return moved, held
}

// J3, J4: drawn frames, from any state and one behind the other.
func TestDrawnFrames(t *testing.T) {
	d := rand.New(rand.NewSource(10))
	for range 400 {
		c := drawnCraft(d)
		s := drawnState(d, c)
		for range 8 {
			words := drawnWords(d, c, s)
			wantState, wantTold := oracle(c, s, words)
			next, told, err := fcc.Step(c, s, words)
			if err != nil || !reflect.DeepEqual(next, wantState) || !slices.Equal(told, wantTold) {
				t.Fatalf("Step(%v, %v, %x): %v %x %v, wanted %v %x", c, s, words, next, told, err, wantState, wantTold)
			}
			if err := fcc.CheckState(c, next); err != nil {
				t.Fatalf("Step(%v, %v, %x): %v: %v", c, s, words, next, err)
			}
			s = next
		}
	}
}

// behind a list: the same, with more of its array behind it.
func behind[T any](l []T, more ...T) []T { return append(slices.Clone(l), more...)[:len(l)] }

// clone a state.
func clone(s fcc.State) fcc.State {
	for i, l := range s.Servos {
		s.Servos[i] = slices.Clone(l)
	}
	return s
}

// Z2: no list that is handed in is written into, what stands behind it plays no part, and what comes out is the caller's.
func TestListsAreLeftAlone(t *testing.T) {
	d := rand.New(rand.NewSource(11))
	for range 200 {
		c := drawnCraft(d)
		s := drawnState(d, c)
		words := drawnWords(d, c, s)
		wantState, wantTold := oracle(c, s, words)
		handed, list := clone(s), behind(words, 0xfffffc80, 0x80)
		for i, l := range handed.Servos {
			handed.Servos[i] = behind(l, act.Servo{Is: 77}, act.Servo{Is: 78})
			c.Axes[i].Gain.At, c.Axes[i].Gain.Is = behind(c.Axes[i].Gain.At, 5), behind(c.Axes[i].Gain.Is, 6)
		}
		next, told, err := fcc.Step(c, handed, list)
		if err != nil || !reflect.DeepEqual(next, wantState) || !slices.Equal(told, wantTold) {
			t.Fatalf("with something behind the lists: %v %x %v, wanted %v %x", next, told, err, wantState, wantTold)
		}
		if !reflect.DeepEqual(handed, s) || !slices.Equal(list, words) {
			t.Fatalf("a list was written into: %v %x, was %v %x", handed, list, s, words)
		}
		for i, l := range handed.Servos {
			if more := l[:len(l)+2]; more[len(l)].Is != 77 || more[len(l)+1].Is != 78 {
				t.Fatalf("what stands behind a list was written into: %v", more)
			}
			if g := c.Axes[i].Gain; g.At[:4][3] != 5 || g.Is[:4][3] != 6 {
				t.Fatalf("what stands behind a line was written into: %v", g)
			}
			next.Servos[i][0].Is = 999
		}
		told[0] = 1
		if !reflect.DeepEqual(handed, s) || !slices.Equal(list, words) || next.Servos[0][1].Is == 999 || next.Servos[1][1].Is == 999 {
			t.Fatal("what came out shares memory")
		}
	}
}

// Z1, Z3: whatever it is given, a call ends, tells a bare error of package api, and, beside it, nothing else.
func TestWildCrafts(t *testing.T) {
	d := rand.New(rand.NewSource(12))
	wild := []int{math.MinInt, math.MaxInt, -1, 0, 1, 2, 5, 1 << 32, -1 << 31, 1 << 62, 100001, -100001, 1001, worth + 1}
	for range 3000 {
		c := drawnCraft(d)
		s := drawnState(d, c)
		a := &c.Axes[d.Intn(2)]
		numbers := []*int{
			&a.Lo, &a.Hi, &a.Noise, &a.Push, &a.Surfaces, &a.Travel, &a.Rate, &a.Slack, &a.Limit, &a.Confirm, &a.Watch, &a.Turn, &a.Build,
			&a.Gain.At[0], &a.Gain.At[2], &a.Gain.Is[1], &c.Limit, &c.Confirm,
			&s.Law, &s.Banks[d.Intn(3)].Last, &s.Banks[2].Bad[1], &s.Holds[0].Aim, &s.Holds[1].Held, &s.Holds[1].Law, &s.Servos[0][0].Is, &s.Servos[1][1].Bad,
		}
		for range 1 + d.Intn(3) {
			*numbers[d.Intn(len(numbers))] = wild[d.Intn(len(wild))]
		}
		words := make([]uint32, d.Intn(68))
		for i := range words {
			words[i] = d.Uint32()
		}
		checkWild(t, c, s, words)
	}
}

func checkWild(t *testing.T, c api.Craft, s fcc.State, words []uint32) {
	t.Helper()
	wrong := fcc.Check(c)
	fresh, err := fcc.New(c)
	if err != wrong || (err != nil && !isZero(fresh)) {
		t.Fatalf("New(%v): %v %v, wanted %v", c, fresh, err, wrong)
	}
	want := fcc.CheckState(c, s)
	if wrong != nil && want != wrong || wrong == nil && want != nil && want != api.ErrForm {
		t.Fatalf("CheckState(%v, %v): %v, Check tells %v", c, s, want, wrong)
	}
	if want == nil && len(words) > 64 {
		want = api.ErrLimit
	}
	next, told, err := fcc.Step(c, s, words)
	if err != want {
		t.Fatalf("Step(%v, %v, %x): %v, wanted %v", c, s, words, err, want)
	}
	if _, ok := err.(api.Errno); err != nil && (!ok || !isZero(next) || len(told) > 0) {
		t.Fatalf("Step(%v, %v, %x): %v %v %v", c, s, words, next, told, err)
	}
	if err == nil && fcc.CheckState(c, next) != nil {
		t.Fatalf("Step(%v, %v, %x): %v", c, s, words, next)
	}
}
