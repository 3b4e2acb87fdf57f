package law_test

import (
	"math"
	"slices"
	"testing"

	"fulmar/api"
	"fulmar/law"
)

const (
	normal = iota
	alternate
	direct
	backup
)

// mayBe: the healths that H1 allows, written out by loops over what may be.
func mayBe() []law.Health {
	var l []law.Health
	for channels := range 4 {
		for surfaces := 1; surfaces <= 4; surfaces++ {
			for sound := range surfaces + 1 {
				l = append(l, law.Health{Channels: channels, Sound: sound, Surfaces: surfaces})
			}
		}
	}
	return l
}

// mayNotBe: healths beside those, next to the edges and far off.
func mayNotBe() []law.Health {
	return []law.Health{
		{-1, 2, 3}, {4, 2, 3}, {math.MinInt, 2, 3}, {math.MaxInt, 2, 3},
		{3, 0, 0}, {3, 0, -1}, {3, -1, -1}, {3, 4, 5}, {3, 5, 5}, {3, 0, math.MinInt}, {3, 1, math.MaxInt},
		{3, -1, 3}, {3, 4, 3}, {3, 2, 1}, {3, 5, 4}, {3, math.MinInt, 3}, {3, math.MaxInt, 3},
		{}, {3, math.MaxInt, math.MaxInt}, {math.MinInt, math.MinInt, math.MinInt},
	}
}

// H1: Check.
func TestCheck(t *testing.T) {
	for _, h := range mayBe() {
		if err := law.Check(h); err != nil {
			t.Errorf("Check(%v): %v", h, err)
		}
	}
	for _, h := range mayNotBe() {
		if err := law.Check(h); err != api.ErrRange {
			t.Errorf("Check(%v): %v", h, err)
		}
	}
	good := mayBe()
	for channels := -2; channels < 6; channels++ {
		for sound := -2; sound < 7; sound++ {
			for surfaces := -2; surfaces < 7; surfaces++ {
				h := law.Health{Channels: channels, Sound: sound, Surfaces: surfaces}
				if got := law.Check(h) == nil; got != slices.Contains(good, h) {
					t.Errorf("Check(%v) is fine: %t", h, got)
				}
			}
		}
	}
}

// H1: which law one axis asks for, by hand: of each number of surfaces, and sound ones, the law with 0, 1, 2, 3 channels left.
func TestOneAxis(t *testing.T) {
	for _, c := range []struct {
		surfaces, sound int
		want            [4]int
	}{
		{1, 0, [4]int{backup, backup, backup, backup}},
		{1, 1, [4]int{direct, direct, normal, normal}},
		{2, 0, [4]int{backup, backup, backup, backup}},
		{2, 1, [4]int{direct, direct, alternate, alternate}},
		{2, 2, [4]int{direct, direct, normal, normal}},
		{3, 0, [4]int{backup, backup, backup, backup}},
		{3, 1, [4]int{direct, direct, direct, direct}},
		{3, 2, [4]int{direct, direct, alternate, alternate}},
		{3, 3, [4]int{direct, direct, normal, normal}},
		{4, 0, [4]int{backup, backup, backup, backup}},
		{4, 1, [4]int{direct, direct, direct, direct}},
		{4, 2, [4]int{direct, direct, direct, direct}},
		{4, 3, [4]int{direct, direct, alternate, alternate}},
		{4, 4, [4]int{direct, direct, normal, normal}},
	} {
		for channels, want := range c.want {
			wanted(t, want, nil, law.Health{Channels: channels, Sound: c.sound, Surfaces: c.surfaces})
		}
	}
}

// wanted: what is wanted of healths, which are not written into.
func wanted(t *testing.T, want int, fault error, l ...law.Health) {
	t.Helper()
	kept := slices.Clone(l)
	if got, err := law.Wanted(l...); got != want || err != fault {
		t.Errorf("Wanted(%v): %d %v, wanted %d %v", l, got, err, want, fault)
	}
	if !slices.Equal(kept, l) {
		t.Errorf("Wanted(%v) wrote into its list: %v", kept, l)
	}
}

// H1: any number of axes: the worst law that one asks for, wherever it stands.
func TestAnyNumberOfAxes(t *testing.T) {
	wanted(t, normal, nil)
	if got, err := law.Wanted([]law.Health{}...); got != normal || err != nil {
		t.Errorf("Wanted of none: %d %v", got, err)
	}
	one := []law.Health{normal: {3, 3, 3}, alternate: {3, 2, 3}, direct: {1, 3, 3}, backup: {3, 0, 3}}
	for a := range one {
		for b := range one {
			wanted(t, max(a, b), nil, one[a], one[b])
			for c := range one {
				wanted(t, max(a, b, c), nil, one[a], one[b], one[c])
			}
		}
	}
	many := slices.Repeat(one[:1], 1000)
	wanted(t, normal, nil, many...)
	many[777] = one[direct]
	wanted(t, direct, nil, many...)
}

// H1: one that may not be, wherever it stands, and nothing but the error comes of it.
func TestWantedOfWrongOnes(t *testing.T) {
	good, worst := law.Health{Channels: 3, Sound: 3, Surfaces: 3}, law.Health{Channels: 0, Sound: 0, Surfaces: 4}
	for _, h := range mayNotBe() {
		wanted(t, 0, api.ErrRange, h)
		wanted(t, 0, api.ErrRange, h, worst)
		wanted(t, 0, api.ErrRange, worst, h)
		wanted(t, 0, api.ErrRange, good, worst, h, good)
	}
}

// Z2: what stands behind a list plays no part.
func TestBehindTheList(t *testing.T) {
	l := []law.Health{{3, 3, 3}, {3, 0, 3}, {9, 9, 9}}
	wanted(t, normal, nil, l[:1]...)
	wanted(t, backup, nil, l[:2]...)
	wanted(t, 0, api.ErrRange, l...)
}

// H2: Next, of all laws, on the ground and in the air, and of what is none.
func TestNext(t *testing.T) {
	air := [4][4]int{{0, 1, 2, 3}, {1, 1, 2, 3}, {2, 2, 2, 3}, {3, 3, 3, 3}}
	for now := range 4 {
		for want := range 4 {
			next(t, now, want, true, want, nil)
			next(t, now, want, false, air[now][want], nil)
		}
	}
	for _, none := range []int{-1, 4, 5, -2, math.MaxInt, math.MinInt} {
		for l := range 4 {
			for _, ground := range []bool{false, true} {
				next(t, none, l, ground, 0, api.ErrRange)
				next(t, l, none, ground, 0, api.ErrRange)
				next(t, none, none, ground, 0, api.ErrRange)
			}
		}
	}
}

func next(t *testing.T, now, wanted int, ground bool, want int, fault error) {
	t.Helper()
	if got, err := law.Next(now, wanted, ground); got != want || err != fault {
		t.Errorf("Next(%d, %d, %t): %d %v, wanted %d %v", now, wanted, ground, got, err, want, fault)
	}
}

// H2: Guarded; what is no law is not guarded.
func TestGuarded(t *testing.T) {
	for now, want := range map[int]bool{0: true, 1: true, 2: false, 3: false, -1: false, 4: false, math.MaxInt: false, math.MinInt: false} {
		if got := law.Guarded(now); got != want {
			t.Errorf("Guarded(%d): %t", now, got)
		}
	}
}

// IsLaw: the four laws, and nothing beside them.
func TestIsLaw(t *testing.T) {
	for n := -3; n < 8; n++ {
		if got := law.IsLaw(n); got != (n >= 0 && n <= 3) {
			t.Errorf("IsLaw(%d): %t", n, got)
		}
	}
	if law.IsLaw(math.MaxInt) || law.IsLaw(math.MinInt) {
		t.Error("IsLaw of the ends of int")
	}
}
