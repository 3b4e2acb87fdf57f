package farm_test

import (
	"math"
	"math/rand"
	"reflect"
	"slices"
	"sync"
	"testing"

	"fulmar/api"
	"fulmar/farm"
	"fulmar/fcc"
	"fulmar/plant"
)

// wild numbers, at which sums and opposites wrap round.
func wild() []int {
	return []int{math.MinInt, math.MinInt + 1, math.MinInt32, math.MaxInt32, 1 << 33, math.MaxInt - 1, math.MaxInt}
}

// Flights that plant.Fly refuses, each by its own error.
var (
	wrongFlight = api.Flight{Steps: []api.Step{{Speed: -1}}}      // ErrRange
	longFlight  = api.Flight{Steps: make([]api.Step, 301)}        // ErrLimit
	faultFlight = api.Flight{Faults: make([]api.Fault, 21)}       // ErrLimit
	wrongFault  = api.Flight{Faults: []api.Fault{{}, {Kind: -1}}} // ErrRange
)

// narrowCraft is one that may not be: ErrForm.
func narrowCraft() api.Craft {
	c := fcc.Usual()
	c.Axes[0].Lo, c.Axes[0].Hi = -10, 10
	return c
}

// about 0, either way, n at most.
func about(d *rand.Rand, n int) int { return d.Intn(2*n+1) - n }

// drawnFlight of the usual craft, of at most so many steps.
func drawnFlight(d *rand.Rand, most int) api.Flight {
	var f api.Flight
	for range d.Intn(6) {
		f.Faults = append(f.Faults, api.Fault{At: d.Intn(30), Kind: d.Intn(5), Axis: d.Intn(2), Unit: d.Intn(3), Is: about(d, 3000)})
	}
	for range d.Intn(most + 1) {
		f.Steps = append(f.Steps, api.Step{
			Stick: [2]int{100, about(d, 100)}, Push: [2]int{about(d, 20), about(d, 5)},
			Noise: [2]int{d.Intn(1331), d.Intn(1 << 33)}, Speed: d.Intn(700), Ground: d.Intn(20) == 0,
		})
	}
	return f
}

func drawnFlights(d *rand.Rand, n, most int) []api.Flight {
	l := make([]api.Flight, n)
	for i := range l {
		l[i] = drawnFlight(d, most)
	}
	return l
}

// alone: what comes of flights that are flown one by one, as the promise tells it.
func alone(c api.Craft, l []api.Flight) ([][]api.Report, error) {
	var out [][]api.Report
	for _, f := range l {
		r, err := plant.Fly(c, f.Faults, f.Steps)
		if err != nil {
			return nil, err
		}
		out = append(out, r)
	}
	return out, nil
}

// same: an empty list may be nil or not.
func same(a, b [][]api.Report) bool { return slices.EqualFunc(a, b, slices.Equal[[]api.Report]) }

// L1: each flight comes to what it comes to alone, and stands where it stood in the list, however many hands fly.
func TestFlyIsAsOneByOne(t *testing.T) {
	d := rand.New(rand.NewSource(41))
	c := fcc.Usual()
	c.Axes[1].Surfaces = 4
	for _, n := range []int{1, 2, 3, 7, 8, 9, 20, 39, 40} {
		l := drawnFlights(d, n, 40)
		want, err := alone(c, l)
		if err != nil {
			t.Fatal(err)
		}
		for hands := 1; hands <= 8; hands++ {
			got, err := farm.Fly(c, l, hands)
			if err != nil || len(got) != n || !same(got, want) {
				t.Errorf("%d flights by %d hands: %v, %v, not %v", n, hands, got, err, want)
			}
		}
	}
}

// L1: long flights ahead of short ones end later, and are told ahead of them all the same.
func TestLongFlightsStandWhereTheyStood(t *testing.T) {
	var l []api.Flight
	for i := range 40 {
		l = append(l, api.Flight{Steps: slices.Repeat([]api.Step{{Stick: [2]int{100, 0}, Push: [2]int{i % 20, 0}, Speed: 100}}, []int{300, 1, 0, 40}[i%4])})
	}
	want, err := alone(fcc.Usual(), l)
	if err != nil {
		t.Fatal(err)
	}
	for hands := 1; hands <= 8; hands++ {
		got, err := farm.Fly(fcc.Usual(), l, hands)
		if err != nil || !same(got, want) {
			t.Errorf("%d hands: not in their order (%v)", hands, err)
		}
	}
}

// L1: how many hands there may be is asked first, whatever else is wrong.
func TestFlyAsksForHands(t *testing.T) {
	lists := [][]api.Flight{nil, make([]api.Flight, 1), make([]api.Flight, 40), make([]api.Flight, 41), {wrongFlight}, {longFlight}}
	for _, hands := range append(wild(), -8, -1, 0, 9, 40) {
		for _, c := range []api.Craft{fcc.Usual(), narrowCraft(), {}} {
			for i, l := range lists {
				if got, err := farm.Fly(c, l, hands); err != api.ErrRange || len(got) != 0 {
					t.Errorf("list %d by %d hands: %v, %v", i, hands, got, err)
				}
			}
		}
	}
}

// L1: how many flights there may be is asked ahead of what they are.
func TestFlyAsksForFlights(t *testing.T) {
	for hands := 1; hands <= 8; hands++ {
		for _, n := range []int{41, 42, 1000} {
			for _, f := range []api.Flight{{}, wrongFlight, longFlight} {
				for _, c := range []api.Craft{fcc.Usual(), narrowCraft()} {
					if got, err := farm.Fly(c, slices.Repeat([]api.Flight{f}, n), hands); err != api.ErrLimit || len(got) != 0 {
						t.Errorf("%d flights by %d hands: %v, %v", n, hands, got, err)
					}
				}
			}
		}
		got, err := farm.Fly(fcc.Usual(), make([]api.Flight, 40), hands)
		if err != nil || !same(got, make([][]api.Report, 40)) {
			t.Errorf("40 flights by %d hands: %v, %v", hands, got, err)
		}
	}
}

// L1: no flights, no reports, and no error of a craft that may not be; one flight, even without steps, has its error.
func TestFlyOfNoFlights(t *testing.T) {
	for _, c := range []api.Craft{fcc.Usual(), narrowCraft(), {}} {
		for hands := 1; hands <= 8; hands++ {
			for _, l := range [][]api.Flight{nil, {}} {
				if got, err := farm.Fly(c, l, hands); err != nil || len(got) != 0 {
					t.Errorf("of no flights by %d hands: %v, %v", hands, got, err)
				}
			}
			got, err := farm.Fly(c, []api.Flight{{}}, hands)
			if want := fcc.Check(c); err != want || (err == nil) != (len(got) == 1) {
				t.Errorf("of one flight by %d hands: %v, %v", hands, got, err)
			}
		}
	}
}

// L1: of several flights that have an error the first one's is told, and no reports.
func TestFlyTellsTheFirstError(t *testing.T) {
	good := api.Flight{Steps: make([]api.Step, 15)}
	for _, k := range []struct {
		what string
		c    api.Craft
		l    []api.Flight
		want error
	}{
		{"a wrong step, then too many", fcc.Usual(), []api.Flight{wrongFlight, longFlight}, api.ErrRange},
		{"too many steps, then a wrong one", fcc.Usual(), []api.Flight{longFlight, wrongFlight}, api.ErrLimit},
		{"too many faults, then a wrong one", fcc.Usual(), []api.Flight{{}, faultFlight, wrongFault}, api.ErrLimit},
		{"a wrong fault, then too many", fcc.Usual(), []api.Flight{{}, wrongFault, faultFlight}, api.ErrRange},
		{"the first of all", fcc.Usual(), append([]api.Flight{longFlight}, slices.Repeat([]api.Flight{wrongFlight}, 39)...), api.ErrLimit},
		{"behind many others", fcc.Usual(), append(slices.Repeat([]api.Flight{good}, 20), longFlight, wrongFlight), api.ErrLimit},
		{"the last of all", fcc.Usual(), append(slices.Repeat([]api.Flight{good}, 39), wrongFlight), api.ErrRange},
		{"ahead of many others", fcc.Usual(), append([]api.Flight{wrongFlight}, slices.Repeat([]api.Flight{good}, 39)...), api.ErrRange},
		{"the craft's", narrowCraft(), []api.Flight{longFlight, wrongFlight}, api.ErrForm},
	} {
		for hands := 1; hands <= 8; hands++ {
			for range 5 {
				if got, err := farm.Fly(k.c, k.l, hands); err != k.want || len(got) != 0 {
					t.Errorf("%s, by %d hands: %d lists, %v", k.what, hands, len(got), err)
				}
			}
		}
	}
}

// L1: drawn flights, some of them wrong, against those that are flown one by one.
func TestDrawnFlights(t *testing.T) {
	d := rand.New(rand.NewSource(42))
	told := map[error]int{}
	for range 300 {
		l := drawnFlights(d, d.Intn(12), 15)
		for i := range l {
			if d.Intn(15) == 0 {
				l[i] = []api.Flight{wrongFlight, longFlight, faultFlight, wrongFault}[d.Intn(4)]
			}
		}
		c := fcc.Usual()
		if d.Intn(20) == 0 {
			c = narrowCraft()
		}
		hands := 1 + d.Intn(8)
		want, wantErr := alone(c, l)
		got, err := farm.Fly(c, l, hands)
		if err != wantErr || !same(got, want) {
			t.Fatalf("Fly(%v, %d): %v, %v, not %v, %v", l, hands, got, err, want, wantErr)
		}
		told[err]++
	}
	if told[nil] < 20 || told[api.ErrRange] < 20 || told[api.ErrLimit] < 20 || told[api.ErrForm] < 5 {
		t.Errorf("few flights of a kind: %v", told)
	}
}

// Z1: no craft and no flight makes Fly panic; it says what plant.Fly says.
func TestFlyOfWildNumbers(t *testing.T) {
	for _, n := range append(wild(), -1, 0, 1, 5) {
		crafts := []api.Craft{fcc.Usual(), fcc.Usual(), {Limit: n, Confirm: n}}
		crafts[1].Axes[1].Surfaces, crafts[1].Axes[0].Gain = n, api.Line{At: []int{n}, Is: []int{n, n}}
		flights := []api.Flight{
			{}, {Faults: []api.Fault{{Kind: api.Stuck, Is: n}}, Steps: make([]api.Step, 3)},
			{Faults: []api.Fault{{At: n, Kind: n, Axis: n, Unit: n, Is: n}}},
			{Steps: []api.Step{{Stick: [2]int{n, n}, Push: [2]int{n, n}, Noise: [2]int{n, n}, Speed: n}}},
		}
		for _, c := range crafts {
			for i := range flights {
				want, wantErr := alone(c, flights[:i+1])
				if got, err := farm.Fly(c, flights[:i+1], 3); err != wantErr || !same(got, want) {
					t.Errorf("of %d: %v, %v, not %v, %v", n, got, err, want, wantErr)
				}
			}
		}
	}
}

// Z2: no list that is handed in is written into, nor is what stands behind it read.
func TestListsAreLeftAlone(t *testing.T) {
	d := rand.New(rand.NewSource(43))
	all := append(drawnFlights(d, 12, 30), wrongFlight, longFlight)
	for i := range all[:12] {
		all[i].Faults = append(all[i].Faults, api.Fault{At: -1})[:len(all[i].Faults)]
		all[i].Steps = append(all[i].Steps, api.Step{Speed: -1})[:len(all[i].Steps)]
	}
	kept := slices.Clone(all)
	for i, f := range kept {
		kept[i] = api.Flight{Faults: slices.Clone(f.Faults[:cap(f.Faults)]), Steps: slices.Clone(f.Steps[:cap(f.Steps)])}
	}
	c, usual := fcc.Usual(), fcc.Usual()
	want, err := alone(c, all[:12])
	if err != nil {
		t.Fatal(err)
	}
	if got, err := farm.Fly(c, all[:12], 4); err != nil || !same(got, want) {
		t.Errorf("%v, %v, not %v", got, err, want)
	}
	for i, f := range all {
		if !slices.Equal(f.Faults[:cap(f.Faults)], kept[i].Faults) || !slices.Equal(f.Steps[:cap(f.Steps)], kept[i].Steps) {
			t.Errorf("flight %d was written into", i)
		}
	}
	if !reflect.DeepEqual(c, usual) {
		t.Error("the craft was written into")
	}
}

// Z2: what comes out is fresh, also of flights that share their lists: no two lists share memory, in one answer or in two.
func TestReportsAreFresh(t *testing.T) {
	d := rand.New(rand.NewSource(44))
	f := drawnFlight(d, 0)
	f.Steps = []api.Step{{Stick: [2]int{100, 100}}, {Stick: [2]int{100, 100}}}
	l := slices.Repeat([]api.Flight{f}, 10)
	want, err := alone(fcc.Usual(), l[:1])
	if err != nil {
		t.Fatal(err)
	}
	first, err := farm.Fly(fcc.Usual(), l, 5)
	if err != nil {
		t.Fatal(err)
	}
	second, err := farm.Fly(fcc.Usual(), l, 5)
	if err != nil {
		t.Fatal(err)
	}
	lists := append(slices.Clone(first), second...)
	for i, r := range lists {
		if !slices.Equal(r, want[0]) {
			t.Errorf("list %d was written into by another one's user, or isn't what it comes to: %v", i, r)
		}
		whole := r[:cap(r)]
		for k := range whole {
			whole[k] = api.Report{Law: -1}
		}
	}
	for i := range first {
		first[i] = nil
	}
	if second[0] == nil {
		t.Error("two answers share their memory")
	}
}

// Z2: what a call answers hangs on its arguments alone, also where other calls run at the same time.
func TestCallsAtTheSameTime(t *testing.T) {
	d := rand.New(rand.NewSource(45))
	c, l := fcc.Usual(), drawnFlights(d, 20, 30)
	want, err := alone(c, l)
	if err != nil {
		t.Fatal(err)
	}
	var all sync.WaitGroup
	for hands := 1; hands <= 8; hands++ {
		all.Go(func() {
			for n := range l {
				got, err := farm.Fly(c, l[:n], hands)
				if err != nil || !same(got, want[:n]) {
					t.Errorf("%d flights by %d hands: %v, %v", n, hands, got, err)
				}
			}
		})
	}
	all.Wait()
}
