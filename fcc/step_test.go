package fcc_test

import (
	"slices"
	"testing"

	"fulmar/act"
	"fulmar/api"
	"fulmar/fcc"
	"fulmar/hold"
	"fulmar/share"
	"fulmar/vote"
	"fulmar/word"
)

const (
	normal = iota
	alternate
	direct
	backup
)

// pack what may be said.
func pack(t *testing.T, l ...api.Reading) []uint32 {
	t.Helper()
	var words []uint32
	for _, r := range l {
		w, err := word.Pack(r)
		if err != nil {
			t.Fatalf("Pack(%v): %v", r, err)
		}
		words = append(words, w)
	}
	return words
}

// say: a reading with the normal status.
func say(label, source, data int) api.Reading {
	return api.Reading{Label: label, Source: source, Status: 3, Data: data}
}

// all is well: each channel says where its axis is, or the speed, and each surface is where it should be; the sticks say nothing.
func well(s fcc.State, places [2]int, speed int) []api.Reading {
	var l []api.Reading
	for k := range 3 {
		l = append(l, say(1, k, places[0]), say(2, k, places[1]), say(8, k, speed))
	}
	for i, servos := range s.Servos {
		for k, v := range servos {
			l = append(l, say(16+4*i+k, 3, v.Is))
		}
	}
	return l
}

// step a frame that may be: well, but for what is said besides (which stands last).
func step(t *testing.T, c api.Craft, s fcc.State, l []api.Reading, besides ...api.Reading) (fcc.State, []api.Reading) {
	t.Helper()
	next, told, err := fcc.Step(c, s, pack(t, append(slices.Clone(l), besides...)...))
	if err != nil {
		t.Fatalf("Step(%v, %v): %v", c, s, err)
	}
	if err := fcc.CheckState(c, next); err != nil {
		t.Fatalf("Step(%v, %v): %v: %v", c, s, next, err)
	}
	var readings []api.Reading
	for _, w := range told {
		r, err := word.Unpack(w)
		if err != nil {
			t.Fatalf("told: %x: %v", w, err)
		}
		readings = append(readings, r)
	}
	return next, readings
}

// J3: each bank is voted by the channels of its own label, and by its own rule.
func TestBanksAreVoted(t *testing.T) {
	c := fcc.Usual()
	c.Axes[0].Limit, c.Axes[0].Confirm = 20, 1
	c.Axes[1].Limit, c.Axes[1].Confirm = 30, 2
	c.Limit, c.Confirm = 10, 3
	s := state(t, c)
	rules := []vote.Rule{{Limit: 20, Confirm: 1}, {Limit: 30, Confirm: 2}, {Limit: 10, Confirm: 3}}
	for b, label := range []int{1, 2, 8} {
		for _, off := range []int{10, 11, 20, 21, 30, 31, -10, -11, -20, -21, -30, -31, 5000} {
			for liar := range 3 {
				next, _ := step(t, c, s, well(s, [2]int{100, 200}, 300), say(label, liar, 100*[]int{1, 2, 3}[b]+off))
				isBad := off > rules[b].Limit || off < -rules[b].Limit
				for i, is := range []int{100, 200, 300} {
					want := vote.Bank{Last: is}
					if i == b && isBad {
						want.Bad[liar] = 1
						want.Out[liar] = rules[b].Confirm == 1
					}
					if next.Banks[i] != want {
						t.Errorf("bank %d, where %d of label %d is off by %d: %v, wanted %v", i, liar, label, off, next.Banks[i], want)
					}
				}
			}
		}
	}
}

// J3: who is often enough bad is out, and not asked again; what was voted of none is what was voted last.
func TestChannelsGoOut(t *testing.T) {
	c := fcc.Usual()
	s := state(t, c)
	for n := 1; n <= 5; n++ {
		s, _ = step(t, c, s, well(s, [2]int{10, 0}, 100), say(1, 2, 90))
		want := vote.Bank{Bad: [3]int{0, 0, min(n, 3)}, Out: [3]bool{false, false, n >= 3}, Last: 10}
		if s.Banks[0] != want {
			t.Errorf("behind frame %d: %v, wanted %v", n, s.Banks[0], want)
		}
	}
	s, _ = step(t, c, s, well(s, [2]int{10, 0}, 100), say(1, 0, 13)) // half of 23, rounded down
	if s.Banks[0].Last != 11 {
		t.Errorf("voted of two: %v", s.Banks[0])
	}
	for n := 1; n <= 3; n++ {
		s, _ = step(t, c, s, nil)
		if s.Banks[0].Last != 11 || s.Banks[2].Last != 100 || s.Banks[2].Bad != [3]int{n, n, n} {
			t.Errorf("voted of none, %d times: %v", n, s.Banks)
		}
	}
	if s.Banks[0].Out != [3]bool{true, true, true} || s.Banks[1].Out != [3]bool{true, true, true} {
		t.Errorf("all are out: %v", s.Banks)
	}
}

// Words: nothing is said by a status that isn't normal, a bad word, another source or label; of several words the last one counts.
func TestWhatALabelSays(t *testing.T) {
	c := fcc.Usual()
	s := state(t, c)
	for _, x := range []struct {
		besides []api.Reading
		want    vote.Bank
	}{
		{nil, vote.Bank{Last: 50}},
		{[]api.Reading{{Label: 1, Source: 1, Status: 0, Data: 50}}, vote.Bank{Bad: [3]int{0, 1, 0}, Last: 50}},
		{[]api.Reading{{Label: 1, Source: 1, Status: 1, Data: 50}}, vote.Bank{Bad: [3]int{0, 1, 0}, Last: 50}},
		{[]api.Reading{{Label: 1, Source: 1, Status: 2, Data: 50}}, vote.Bank{Bad: [3]int{0, 1, 0}, Last: 50}},
		{[]api.Reading{{Label: 1, Source: 1, Status: 0, Data: 50}, say(1, 1, 50)}, vote.Bank{Last: 50}},
		{[]api.Reading{say(1, 1, 999), say(1, 1, 50)}, vote.Bank{Last: 50}},
		{[]api.Reading{say(1, 1, 50), say(1, 1, 999)}, vote.Bank{Bad: [3]int{0, 1, 0}, Last: 50}},
		{[]api.Reading{say(1, 3, 999), say(3, 0, 999), say(0, 0, 999), say(128, 0, 999), say(2, 1, 9)}, vote.Bank{Last: 50}},
		{[]api.Reading{say(1, 0, -262144), say(1, 1, 262143)}, vote.Bank{Bad: [3]int{1, 1, 0}, Last: 50}},
	} {
		next, _ := step(t, c, s, well(s, [2]int{50, 0}, 0), x.besides...)
		if next.Banks[0] != x.want {
			t.Errorf("besides %v: %v, wanted %v", x.besides, next.Banks[0], x.want)
		}
	}
	words := pack(t, well(s, [2]int{50, 0}, 0)...)
	for bit := range 32 {
		turned := slices.Clone(words)
		turned[0] ^= 1 << bit // label 1, source 0
		next, _, err := fcc.Step(c, s, turned)
		if want := (vote.Bank{Bad: [3]int{1, 0, 0}, Last: 50}); err != nil || next.Banks[0] != want || next.Banks[1].Bad != [3]int{} {
			t.Errorf("with bit %d turned: %v %v, wanted %v", bit, next.Banks, err, want)
		}
	}
}

// J3: as many words as may be, and one more.
func TestTooManyWords(t *testing.T) {
	c := fcc.Usual()
	s := state(t, c)
	for _, n := range []int{65, 66, 1000} {
		nothing(t, c, s, make([]uint32, n), api.ErrLimit)
		nothing(t, c, s, slices.Repeat(pack(t, say(1, 0, 5)), n), api.ErrLimit)
	}
	l := slices.Repeat([]api.Reading{say(99, 0, 1)}, 64-15)
	next, _ := step(t, c, s, append(l, well(s, [2]int{7, 8}, 9)...))
	if next.Banks != [3]vote.Bank{{Last: 7}, {Last: 8}, {Last: 9}} {
		t.Errorf("of 64 words: %v", next.Banks)
	}
}

// J3: a servo is watched by its own label; often enough away from its place it is out, at 0, its word has no normal status, and the others go on.
func TestServosAreWatched(t *testing.T) {
	c := fcc.Usual()
	for i := range 2 {
		for k := range 3 {
			for _, seen := range []api.Reading{say(16+4*i+k, 3, 36), say(16+4*i+k, 3, 24), {Label: 16 + 4*i + k, Source: 3, Status: 1, Data: 30}} {
				s := state(t, c)
				for n := 1; n <= 4; n++ {
					s.Servos[i][k].Is = 30
					if n == 4 {
						s.Servos[i][k].Is = 0
					}
					var told []api.Reading
					s, told = step(t, c, s, well(s, [2]int{}, 0), seen)
					v := s.Servos[i][k]
					if v.Bad != min(n, 3) || v.Out != (n >= 3) || (v.Out && v.Is != 0) {
						t.Errorf("servo %d of axis %d, seen as %v, behind frame %d: %v", k, i, seen, n, v)
					}
					law := normal
					if n >= 3 {
						law = alternate
					}
					if s.Law != law {
						t.Errorf("by the law %d, wanted %d", s.Law, law)
					}
					tellsState(t, s, told)
				}
			}
		}
	}
}

// J3: within its slack a servo is fine, and being so makes up for nothing.
func TestServosWithinTheirSlack(t *testing.T) {
	c := fcc.Usual()
	s := state(t, c)
	s.Servos[0][1] = act.Servo{Is: 30, Bad: 2}
	for _, at := range []int{25, 30, 35} {
		next, _ := step(t, c, s, well(s, [2]int{}, 0), say(17, 3, at))
		if v := next.Servos[0][1]; v.Out || v.Bad != 2 {
			t.Errorf("seen at %d: %v", at, v)
		}
	}
	// Said by another source than 3 it isn't said.
	next, _ := step(t, c, s, slices.DeleteFunc(well(s, [2]int{}, 0), func(r api.Reading) bool { return r.Label == 17 }), say(17, 0, 30))
	if !next.Servos[0][1].Out {
		t.Errorf("seen by no one: %v", next.Servos[0][1])
	}
}

// tellsState: what is told is where each servo should be, in order, then the law.
func tellsState(t *testing.T, s fcc.State, told []api.Reading) {
	t.Helper()
	var want []api.Reading
	for i, first := range []int{64, 68} {
		for k, v := range s.Servos[i] {
			r := say(first+k, 3, v.Is)
			if v.Out {
				r.Status = 0
			}
			want = append(want, r)
		}
	}
	want = append(want, say(80, 3, s.Law))
	if !slices.Equal(told, want) {
		t.Errorf("told %v, wanted %v", told, want)
	}
}

// J3: what is told, word by word, of axes with two to four surfaces.
func TestWhatIsTold(t *testing.T) {
	for n := 2; n <= 4; n++ {
		for m := 2; m <= 4; m++ {
			c := fcc.Usual()
			c.Axes[0].Surfaces, c.Axes[1].Surfaces = n, m
			s := state(t, c)
			s.Law = direct
			s.Servos[0][n-1].Out, s.Servos[1][0].Out = true, true
			next, told := step(t, c, s, well(s, [2]int{}, 0), say(32, 3, 50), say(33, 3, -50))
			if len(told) != n+m+1 {
				t.Fatalf("of %d and %d surfaces: %v", n, m, told)
			}
			tellsState(t, next, told)
		}
	}
	c := fcc.Usual()
	s := state(t, c)
	s.Law = direct
	_, words, err := fcc.Step(c, s, pack(t, append(well(s, [2]int{}, 0), say(32, 3, 10), say(33, 3, -1))...))
	want := pack(t, say(64, 3, 7), say(65, 3, 7), say(66, 3, 6), say(68, 3, 0), say(69, 3, -1), say(70, 3, -1), say(80, 3, 2))
	if err != nil || !slices.Equal(words, want) {
		t.Errorf("told %x %v, wanted %x", words, err, want)
	}
}

// J3: the law by what is left of both axes, channels and surfaces; the speed's channels play no part.
func TestLawByWhatIsLeft(t *testing.T) {
	c := withAxis(fcc.Usual(), 1, func(a *api.Axis) { a.Surfaces = 4 })
	// asks: what one axis asks for; a backup law for no surface, and so on.
	asks := func(channels, lost, surfaces int) int {
		switch {
		case lost == surfaces:
			return backup
		case channels < 2 || lost > 1:
			return direct
		case lost == 1:
			return alternate
		}
		return normal
	}
	for left := range 4 * 4 * 4 {
		for lost := range 4 * 5 {
			s := state(t, c)
			channels, surfaces := []int{left % 4, left / 4 % 4, left / 16}, []int{lost % 4, lost / 4}
			for b, n := range channels {
				for k := n; k < 3; k++ {
					s.Banks[b].Out[k] = true
				}
			}
			for i, n := range surfaces {
				for k := range n {
					s.Servos[i][k].Out = true
				}
			}
			want := max(asks(channels[0], surfaces[0], 3), asks(channels[1], surfaces[1], 4))
			next, told := step(t, c, s, well(s, [2]int{}, 0))
			if next.Law != want {
				t.Fatalf("with %v channels and without %v surfaces: law %d, wanted %d", channels, surfaces, next.Law, want)
			}
			tellsState(t, next, told)
		}
	}
}

// J3: in the air the law never gets better; on the ground it is what is wanted. It is on the ground only if label 40 says 1.
func TestLawOnTheGround(t *testing.T) {
	c := fcc.Usual()
	for was := range 4 {
		for lost := range 4 {
			s := state(t, c)
			s.Law = was
			for k := range lost {
				s.Servos[1][k].Out = true
			}
			for _, x := range []struct {
				says   []api.Reading
				ground bool
			}{
				{nil, false},
				{[]api.Reading{say(40, 3, 1)}, true},
				{[]api.Reading{say(40, 3, 0)}, false},
				{[]api.Reading{say(40, 3, 2)}, false},
				{[]api.Reading{say(40, 3, -1)}, false},
				{[]api.Reading{say(40, 0, 1)}, false},
				{[]api.Reading{{Label: 40, Source: 3, Status: 0, Data: 1}}, false},
				{[]api.Reading{{Label: 40, Source: 3, Status: 2, Data: 1}}, false},
				{[]api.Reading{say(40, 3, 0), say(40, 3, 1)}, true},
				{[]api.Reading{say(40, 3, 1), say(40, 3, 0)}, false},
			} {
				want := []int{normal, alternate, direct, backup}[lost]
				if !x.ground {
					want = max(want, was)
				}
				next, _ := step(t, c, s, well(s, [2]int{}, 0), x.says...)
				if next.Law != want || next.Holds[0].Law != want || next.Holds[1].Law != want {
					t.Errorf("by the law %d, without %d surfaces, %v: law %d, held %v, wanted %d", was, lost, x.says, next.Law, next.Holds, want)
				}
			}
		}
	}
}

// plain: gains of 1 at speed 0 and of a half at 300; a quarter of what is left is held.
func plain() api.Craft {
	c := fcc.Usual()
	for i := range c.Axes {
		c.Axes[i].Gain, c.Axes[i].Build = api.Line{At: []int{0, 300}, Is: []int{256, 128}}, 64
	}
	return c
}

// servos at those places.
func servos(at ...int) []act.Servo {
	l := make([]act.Servo, len(at))
	for k, is := range at {
		l[k].Is = is
	}
	return l
}

// J4, by hand: of either axis, while the other one stays where it is.
func TestAnAxisIsMoved(t *testing.T) {
	for _, x := range []struct {
		what             string
		law              int
		held             hold.State
		at               []int
		stick, is, speed int
		to               []int
		next             hold.State
	}{
		{"nothing asked", normal, hold.State{}, []int{0, 0, 0}, 0, 0, 0, []int{0, 0, 0}, hold.State{}},
		{"a full stick, all of which is done", normal, hold.State{}, []int{0, 0, 0}, 100, 0, 0, []int{20, 20, 20}, hold.State{Aim: 60, Held: 15}},
		{"at twice the speed half of it", normal, hold.State{}, []int{0, 0, 0}, 100, 0, 300, []int{10, 10, 10}, hold.State{Aim: 60, Held: 15}},
		{"a stick beyond its end", normal, hold.State{}, []int{0, 0, 0}, 120, 0, 300, []int{10, 10, 10}, hold.State{Aim: 60, Held: 15}},
		{"the other way", normal, hold.State{}, []int{0, 0, 0}, -9999, 0, 300, []int{-10, -10, -10}, hold.State{Aim: -60, Held: -15}},
		{"kept back by the rate of two: nothing builds", normal, hold.State{}, []int{0, 0, 0}, 100, -1, 0, []int{20, 20, 20}, hold.State{Aim: 60}},
		{"from where it is moved", normal, hold.State{Aim: 100}, []int{20, 0, 0}, 0, 30, 0, []int{24, 23, 23}, hold.State{Aim: 100, Held: 18}},
		{"what is held comes besides", normal, hold.State{Aim: 10, Held: 7}, []int{0, 0, 0}, 0, 0, 0, []int{6, 6, 5}, hold.State{Aim: 10, Held: 10}}, // 2.5 is 3
		{"the last place where 60 can be stopped", normal, hold.State{Aim: 4000}, []int{0, 0, 0}, 0, 3885, 0, []int{20, 20, 20}, hold.State{Aim: 4000}},
		{"beyond it", normal, hold.State{Aim: 4000}, []int{0, 0, 0}, 0, 3886, 0, []int{20, 20, 19}, hold.State{Aim: 4000}},
		{"at the edge it goes down by gusts and slack", normal, hold.State{Aim: 4000}, []int{0, 0, 0}, 100, 3995, 0, []int{-8, -8, -9}, hold.State{Aim: 4000}},
		{"at the other edge", normal, hold.State{Aim: -4000}, []int{0, 0, 0}, -100, -3995, 0, []int{9, 8, 8}, hold.State{Aim: -4000}},
		{"more than two can do is counted as what two do", normal, hold.State{Aim: 4000, Held: 200}, []int{100, 100, 100}, 0, 0, 0, []int{70, 70, 70}, hold.State{Aim: 4000, Held: 200}},
		{"a new law goes on with what was done", alternate, hold.State{Aim: 999, Held: 99}, []int{20, 10, 0}, 100, 50, 0, []int{10, 10, 10}, hold.State{Aim: 110, Held: -30, Law: alternate}},
		{"under the alternate law nothing builds", alternate, hold.State{Law: alternate}, []int{0, 0, 0}, 100, 0, 0, []int{20, 20, 20}, hold.State{Aim: 60, Law: alternate}},
		{"the alternate law keeps the envelope", alternate, hold.State{Aim: 4000, Law: alternate}, []int{0, 0, 0}, 0, 3886, 0, []int{20, 20, 19}, hold.State{Aim: 4000, Law: alternate}},
		{"the direct law: a hundredth", direct, hold.State{Aim: 5, Held: 6}, []int{0, 0, 0}, 10, 0, 0, []int{7, 7, 6}, hold.State{Aim: 5, Held: 6, Law: direct}},
		{"by the rate of two at most", direct, hold.State{}, []int{0, 0, 0}, 50, 0, 0, []int{20, 20, 20}, hold.State{Law: direct}},
		{"also down", direct, hold.State{}, []int{0, 0, 0}, -50, 0, 0, []int{-20, -20, -20}, hold.State{Law: direct}},
		{"whatever the envelope", direct, hold.State{}, []int{10, 10, 10}, 100, 9000, 0, []int{30, 30, 30}, hold.State{Law: direct}},
		{"more than two can do, under the direct law", direct, hold.State{}, []int{100, 100, 99}, 100, 0, 0, []int{70, 70, 69}, hold.State{Law: direct}},
		{"the backup law goes to 0", backup, hold.State{Aim: 5, Held: 6}, []int{9, -9, 1}, 100, 0, 0, []int{0, 0, 0}, hold.State{Aim: 5, Held: 6, Law: backup}},
		{"as fast as two can", backup, hold.State{}, []int{90, 90, 20}, 100, 0, 0, []int{60, 60, 20}, hold.State{Law: backup}},
	} {
		for i := range 2 {
			c := plain()
			s := state(t, c)
			s.Law, s.Holds[1-i].Law = x.law, x.law
			s.Holds[i], s.Servos[i] = x.held, servos(x.at...)
			var places [2]int
			places[i] = x.is
			next, told := step(t, c, s, well(s, places, x.speed), say(32+i, 3, x.stick))
			if !slices.Equal(next.Servos[i], servos(x.to...)) || next.Holds[i] != x.next {
				t.Errorf("%s, of axis %d: %v, held %v, wanted %v, %v", x.what, i, next.Servos[i], next.Holds[i], x.to, x.next)
			}
			if !slices.Equal(next.Servos[1-i], servos(0, 0, 0)) || next.Holds[1-i] != (hold.State{Law: x.law}) {
				t.Errorf("%s, the axis besides %d: %v, held %v", x.what, i, next.Servos[1-i], next.Holds[1-i])
			}
			tellsState(t, next, told)
		}
	}
}

// J4: a stick that says nothing is at 0; it is said by source 3 alone.
func TestASilentStick(t *testing.T) {
	c := plain()
	s := state(t, c)
	for _, l := range [][]api.Reading{
		nil, {say(32, 0, 100), say(33, 1, 100), say(34, 3, 100), say(31, 3, 100)},
		{{Label: 32, Source: 3, Status: 1, Data: 100}, {Label: 33, Source: 3, Status: 0, Data: -100}},
	} {
		next, _ := step(t, c, s, well(s, [2]int{}, 0), l...)
		if next.Holds != [2]hold.State{} || !slices.Equal(next.Servos[0], servos(0, 0, 0)) || !slices.Equal(next.Servos[1], servos(0, 0, 0)) {
			t.Errorf("besides %v: %v", l, next)
		}
	}
}

// J3, J4: a servo that goes out in this frame counts as 0 in it, and the new law, which goes on with what was done, is this frame's.
func TestAServoGoesOutInAFrame(t *testing.T) {
	c := plain()
	s := state(t, c)
	s.Servos[0] = []act.Servo{{Is: 40}, {Is: 40, Bad: 2}, {Is: 40}}
	s.Holds[0] = hold.State{Aim: 500, Held: 77}
	next, told := step(t, c, s, well(s, [2]int{100, 0}, 0), say(17, 3, 0))
	want := []act.Servo{{Is: 40}, {Bad: 3, Out: true}, {Is: 40}}
	if !slices.Equal(next.Servos[0], want) || next.Holds[0] != (hold.State{Aim: 100, Held: 80, Law: alternate}) || next.Law != alternate {
		t.Errorf("%v, wanted servos %v", next, want)
	}
	tellsState(t, next, told)
	// The two that are left do what is asked of all.
	next, _ = step(t, c, next, well(next, [2]int{100, 0}, 0), say(32, 3, 50))
	want = []act.Servo{{Is: 55}, {Bad: 3, Out: true}, {Is: 55}}
	if !slices.Equal(next.Servos[0], want) || next.Holds[0] != (hold.State{Aim: 130, Held: 80, Law: alternate}) {
		t.Errorf("%v, wanted servos %v", next, want)
	}
}

// J4: the place and the speed are those that were voted in this frame, not what one channel says, nor the last ones.
func TestMovedByWhatWasVoted(t *testing.T) {
	c := plain()
	s := state(t, c)
	s.Banks = [3]vote.Bank{{Last: 3000}, {Last: 3000}, {Last: 0}}
	next, _ := step(t, c, s, well(s, [2]int{-20, 20}, 300), say(1, 0, 5000), say(2, 2, -5000), say(8, 1, 0))
	if !slices.Equal(next.Servos[0], servos(4, 3, 3)) || !slices.Equal(next.Servos[1], servos(-3, -3, -4)) {
		t.Errorf("%v", next.Servos)
	}
	// Nobody says anything: it is where it was at last.
	next, _ = step(t, c, s, nil)
	if next.Banks[0].Last != 3000 || share.Sum(next.Servos[0]) != -60 {
		t.Errorf("%v", next)
	}
}
