package farm

import (
	"runtime"
	"slices"
	"sync"
	"testing"
	"time"

	"fulmar/api"
	"fulmar/fcc"
)

// numbered: flights that can be told apart by the speed of their step.
func numbered(n int) []api.Flight {
	l := make([]api.Flight, n)
	for i := range l {
		l[i].Steps = []api.Step{{Speed: i}}
	}
	return l
}

func number(f api.Flight) int { return f.Steps[0].Speed }

// report that can be told apart, too.
func report(i int) []api.Report { return []api.Report{{Law: i}} }

// gate lets nobody on till so many stand at it; from then on it stands open.
type gate struct {
	lock              sync.Mutex
	need, stand, most int
	open              chan struct{}
}

func newGate(need int) *gate { return &gate{need: need, open: make(chan struct{})} }

// come to the gate, by n (or, by -1, go from it), and count.
func (g *gate) come(n int) {
	g.lock.Lock()
	defer g.lock.Unlock()
	g.stand += n
	if g.stand == g.need && g.most < g.need {
		close(g.open)
	}
	g.most = max(g.most, g.stand)
}

// pass tells whether the gate opened in time.
func (g *gate) pass() bool {
	g.come(1)
	defer g.come(-1)
	select {
	case <-g.open:
		time.Sleep(time.Millisecond) // so that one hand too many is seen
		return true
	case <-time.After(20 * time.Second):
		return false
	}
}

// L1: so many hands fly at once: the first flights wait till each hand has one; and never has a hand more than one.
func TestSoManyHandsAtOnce(t *testing.T) {
	for hands := 1; hands <= 8; hands++ {
		g := newGate(hands)
		got, err := flown(numbered(40), hands, func(f api.Flight) ([]api.Report, error) {
			if !g.pass() {
				return nil, api.ErrState
			}
			return report(number(f)), nil
		})
		if err != nil || len(got) != 40 {
			t.Errorf("%d hands didn't fly at once: %v", hands, err)
		}
		if g.most != hands {
			t.Errorf("%d hands flew %d at once", hands, g.most)
		}
	}
}

// L1: in whatever order flights end, their reports stand in the list's order; here the first flight ends last of all.
func TestTheFirstMayEndLast(t *testing.T) {
	for hands := 2; hands <= 8; hands++ {
		var others sync.WaitGroup
		others.Add(39)
		got, err := flown(numbered(40), hands, func(f api.Flight) ([]api.Report, error) {
			if number(f) == 0 {
				others.Wait()
			} else {
				others.Done()
			}
			return report(number(f)), nil
		})
		if err != nil || len(got) != 40 {
			t.Fatalf("%d hands: %v, %v", hands, got, err)
		}
		for i, r := range got {
			if !slices.Equal(r, report(i)) {
				t.Errorf("%d hands: at %d stands %v", hands, i, r)
			}
		}
	}
}

// L1: the error of the first flight in the list is told, also where another one's came first.
func TestTheFirstErrorMayComeLast(t *testing.T) {
	for hands := 2; hands <= 8; hands++ {
		var others sync.WaitGroup
		others.Add(9)
		got, err := flown(numbered(10), hands, func(f api.Flight) ([]api.Report, error) {
			if number(f) == 0 {
				others.Wait()
				return nil, api.ErrZero
			}
			others.Done()
			return nil, api.ErrState
		})
		if err != api.ErrZero || got != nil {
			t.Errorf("%d hands: %v, %v", hands, got, err)
		}
	}
}

// L1: each flight is flown once, none twice, also where there are fewer than hands.
func TestEachFlightIsFlownOnce(t *testing.T) {
	for _, n := range []int{0, 1, 2, 7, 8, 9, 40} {
		var lock sync.Mutex
		flights := make([]int, n)
		_, err := flown(numbered(n), 8, func(f api.Flight) ([]api.Report, error) {
			lock.Lock()
			defer lock.Unlock()
			flights[number(f)]++
			return nil, nil
		})
		if err != nil || slices.ContainsFunc(flights, func(k int) bool { return k != 1 }) {
			t.Errorf("%d flights, flown so often: %v, %v", n, flights, err)
		}
	}
}

// rest: waits till no more goroutines are there than so many; one that has told that it is done may still be about to go.
func rest(t *testing.T, before int) {
	t.Helper()
	for end := time.Now().Add(20 * time.Second); runtime.NumGoroutine() > before; time.Sleep(time.Millisecond) {
		if time.Now().After(end) {
			t.Fatalf("%d hands are left", runtime.NumGoroutine()-before)
		}
	}
}

// mostHands that are seen while a list is flown.
func mostHands(t *testing.T, l []api.Flight, hands int) int {
	before := runtime.NumGoroutine() + 1 // the one that looks
	done, seen := make(chan struct{}), make(chan int)
	go func() {
		most := 0
		for {
			select {
			case <-done:
				seen <- most
				return
			default:
				most = max(most, runtime.NumGoroutine()-before)
				time.Sleep(50 * time.Microsecond)
			}
		}
	}()
	if _, err := Fly(fcc.Usual(), l, hands); err != nil {
		t.Error(err)
	}
	close(done)
	return <-seen
}

// L1: Fly takes as many hands as it is told, all at once, and none besides.
func TestFlyTakesItsHands(t *testing.T) {
	before := runtime.NumGoroutine()
	l := slices.Repeat([]api.Flight{{Steps: make([]api.Step, 50)}}, 40)
	for hands := 1; hands <= 8; hands++ {
		seen := 0
		for end := time.Now().Add(20 * time.Second); seen < hands && time.Now().Before(end); {
			seen = mostHands(t, l, hands)
			rest(t, before)
		}
		if seen != hands {
			t.Errorf("%d hands, %d were seen", hands, seen)
		}
	}
}

// Z1: every hand is at rest when Fly answers, with an error or without.
func TestNoHandIsLeft(t *testing.T) {
	before := runtime.NumGoroutine()
	lists := [][]api.Flight{nil, numbered(1), numbered(40), numbered(41), append(numbered(3), api.Flight{Steps: make([]api.Step, 301)})}
	for range 20 {
		for _, l := range lists {
			for hands := 0; hands <= 9; hands++ {
				Fly(fcc.Usual(), l, hands)
			}
		}
	}
	rest(t, before)
}
