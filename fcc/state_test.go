package fcc_test

import (
	"math"
	"testing"

	"fulmar/act"
	"fulmar/api"
	"fulmar/fcc"
	"fulmar/hold"
	"fulmar/vote"
)

// state that is new, of a craft that may be.
func state(t *testing.T, c api.Craft) fcc.State {
	t.Helper()
	s, err := fcc.New(c)
	if err != nil {
		t.Fatalf("New(%v): %v", c, err)
	}
	return s
}

// J2: a new state is all zero, with a servo for each surface; each time in memory of its own.
func TestNewState(t *testing.T) {
	for n := 2; n <= 4; n++ {
		for m := 2; m <= 4; m++ {
			c := fcc.Usual()
			c.Axes[0].Surfaces, c.Axes[1].Surfaces = n, m
			s, other := state(t, c), state(t, c)
			if len(s.Servos[0]) != n || len(s.Servos[1]) != m {
				t.Fatalf("of %d and %d surfaces: %v", n, m, s)
			}
			for i, l := range s.Servos {
				for k, v := range l {
					if v != (act.Servo{}) {
						t.Errorf("servo %d of axis %d: %v", k, i, v)
					}
					l[k].Is = 1
					if other.Servos[i][k].Is != 0 {
						t.Errorf("servo %d of axis %d is that of another state", k, i)
					}
				}
			}
			s.Servos = [2][]act.Servo{}
			if !isZero(s) {
				t.Errorf("a new state: %v", s)
			}
		}
	}
}

// changed: a state that is new, with a change.
func changed(t *testing.T, change func(*fcc.State)) fcc.State {
	t.Helper()
	s := state(t, fcc.Usual())
	change(&s)
	return s
}

// J2: states that may be, at the edges of each number; they needn't fit together.
func TestStatesThatMayBe(t *testing.T) {
	var all []fcc.State
	add := func(change func(*fcc.State)) { all = append(all, changed(t, change)) }
	for l := range 4 {
		add(func(s *fcc.State) { s.Law = l })
		for i := range 2 {
			add(func(s *fcc.State) { s.Holds[i].Law = l })
		}
	}
	for i := range 3 {
		add(func(s *fcc.State) { s.Banks[i] = vote.Bank{Bad: [3]int{10, 0, 10}, Last: worth} })
		add(func(s *fcc.State) { s.Banks[i] = vote.Bank{Out: [3]bool{true, true, true}, Last: -worth} })
	}
	for i := range 2 {
		for _, h := range []hold.State{{Aim: 4000, Held: -200}, {Aim: -4000, Held: 200}} {
			add(func(s *fcc.State) { s.Holds[i] = h })
		}
		for k := range 3 {
			for _, v := range []act.Servo{{Is: 100, Bad: 2}, {Is: -100}, {Out: true}, {Out: true, Bad: 3}} {
				add(func(s *fcc.State) { s.Servos[i][k] = v })
			}
		}
	}
	for _, s := range all {
		if err := fcc.CheckState(fcc.Usual(), s); err != nil {
			t.Errorf("CheckState of %v: %v", s, err)
		}
		next, told, err := fcc.Step(fcc.Usual(), s, nil)
		if err != nil || len(told) != 7 || fcc.CheckState(fcc.Usual(), next) != nil {
			t.Errorf("Step of %v: %v %v %v", s, next, told, err)
		}
	}
}

// J2, J3: states that may not be so are told ahead of too many words.
func TestStatesThatMayNotBe(t *testing.T) {
	wrong := []fcc.State{{}}
	add := func(change func(*fcc.State)) { wrong = append(wrong, changed(t, change)) }
	for _, l := range []int{-1, 4, math.MaxInt, math.MinInt} {
		add(func(s *fcc.State) { s.Law = l })
		for i := range 2 {
			add(func(s *fcc.State) { s.Holds[i].Law = l })
		}
	}
	for i := range 3 {
		for k := range 3 {
			for _, n := range []int{-1, 11, math.MaxInt, math.MinInt} {
				add(func(s *fcc.State) { s.Banks[i].Bad[k] = n })
			}
		}
		for _, n := range []int{worth + 1, -worth - 1, math.MaxInt, math.MinInt} {
			add(func(s *fcc.State) { s.Banks[i].Last = n })
		}
	}
	for i := range 2 {
		for _, h := range []hold.State{{Aim: 4001}, {Aim: -4001}, {Held: 201}, {Held: -201}, {Aim: math.MaxInt}, {Held: math.MinInt}} {
			add(func(s *fcc.State) { s.Holds[i] = h })
		}
		for _, n := range []int{0, 1, 2, 4, 5, 100} {
			add(func(s *fcc.State) { s.Servos[i] = make([]act.Servo, n) })
		}
		add(func(s *fcc.State) { s.Servos[i] = nil })
		for k := range 3 {
			for _, v := range []act.Servo{{Is: 101}, {Is: -101}, {Is: math.MinInt}, {Bad: -1}, {Bad: 3}, {Bad: 4, Out: true}, {Is: 1, Out: true}} {
				add(func(s *fcc.State) { s.Servos[i][k] = v })
			}
		}
	}
	for _, s := range wrong {
		if err := fcc.CheckState(fcc.Usual(), s); err != api.ErrForm {
			t.Errorf("CheckState of %v: %v, wanted %v", s, err, api.ErrForm)
		}
		nothing(t, fcc.Usual(), s, nil, api.ErrForm)
		nothing(t, fcc.Usual(), s, make([]uint32, 65), api.ErrForm)
	}
}

// J2: a state is checked by its own craft: what one of them may be, another may not.
func TestStatesOfAnotherCraft(t *testing.T) {
	c := withAxis(fcc.Usual(), 1, func(a *api.Axis) { a.Surfaces, a.Travel, a.Watch, a.Hi = 2, 50, 1, 2000 })
	s := state(t, c)
	s.Servos[1][0].Is, s.Holds[1] = 50, hold.State{Aim: 2000, Held: 50}
	if err := fcc.CheckState(c, s); err != nil {
		t.Fatalf("CheckState(%v, %v): %v", c, s, err)
	}
	for _, change := range []func(*fcc.State){
		func(s *fcc.State) { s.Servos[1] = []act.Servo{{Is: 51}, {}} },
		func(s *fcc.State) { s.Servos[1] = []act.Servo{{Bad: 1}, {}} },
		func(s *fcc.State) { s.Servos[1] = make([]act.Servo, 3) },
		func(s *fcc.State) { s.Holds[1].Held = 51 }, // one surface is enough to hold it
		func(s *fcc.State) { s.Holds[1].Aim = 2001 },
	} {
		bad := s
		change(&bad)
		if err := fcc.CheckState(c, bad); err != api.ErrForm {
			t.Errorf("CheckState(%v, %v): %v, wanted %v", c, bad, err, api.ErrForm)
		}
	}
}
