package share_test

import (
	"math"
	"math/rand"
	"slices"
	"testing"

	"fulmar/act"
	"fulmar/api"
	"fulmar/share"
)

func usual() act.Rule { return act.Rule{Travel: 100, Rate: 30, Slack: 5, Confirm: 3} }

// at: servos at these places.
func at(places ...int) []act.Servo {
	var l []act.Servo
	for _, x := range places {
		l = append(l, act.Servo{Is: x})
	}
	return l
}

// without: these, but one of them is out.
func without(i int, l []act.Servo) []act.Servo {
	l[i] = act.Servo{Bad: 3, Out: true}
	return l
}

// F1: the rule's error, then that of how many there are, then that of the first servo; nothing else with them.
func TestErrors(t *testing.T) {
	badRule := act.Rule{Travel: 100, Rate: 101, Confirm: 3}
	far, slow := act.Servo{Is: 101}, act.Servo{Bad: 3}
	for _, c := range []struct {
		r    act.Rule
		l    []act.Servo
		want error
	}{
		{badRule, at(0, 0), api.ErrRange},
		{badRule, nil, api.ErrRange},
		{badRule, at(0, 0, 0, 0, 0), api.ErrRange},
		{badRule, []act.Servo{far}, api.ErrRange},
		{act.Rule{}, at(0), api.ErrRange},
		{act.Rule{Travel: math.MaxInt, Rate: 1, Confirm: 1}, at(0), api.ErrRange},
		{usual(), nil, api.ErrLimit},
		{usual(), []act.Servo{}, api.ErrLimit},
		{usual(), at(0, 0, 0, 0, 0), api.ErrLimit},
		{usual(), []act.Servo{far, far, far, far, far}, api.ErrLimit},
		{usual(), make([]act.Servo, 100000), api.ErrLimit},
		{usual(), []act.Servo{far}, api.ErrForm},
		{usual(), []act.Servo{{}, {}, {}, slow}, api.ErrForm},
		{usual(), []act.Servo{{}, {Is: -1, Out: true}, {}}, api.ErrForm},
		{usual(), []act.Servo{{Is: math.MinInt}, {Is: math.MaxInt}}, api.ErrForm},
	} {
		for _, sum := range []int{0, 50, -400, math.MaxInt, math.MinInt} {
			if to, err := share.Spread(c.r, c.l, sum); len(to) != 0 || err != c.want {
				t.Errorf("Spread(%v, %d servos, %d): %v %v, wanted %v", c.r, len(c.l), sum, to, err, c.want)
			}
		}
	}
}

// F2: by hand.
func TestSpreadByHand(t *testing.T) {
	for _, c := range []struct {
		l    []act.Servo
		sum  int
		want []int
	}{
		{at(0, 0, 0), 50, []int{17, 17, 16}},
		{at(0, 0, 0), 49, []int{17, 16, 16}},
		{at(0, 0, 0), 48, []int{16, 16, 16}},
		{at(0, 0, 0), 0, []int{0, 0, 0}},
		{at(0, 0, 0), -50, []int{-16, -17, -17}},
		{at(0, 0, 0), -49, []int{-16, -16, -17}},
		{at(0, 0, 0), -100, []int{-30, -30, -30}},
		{at(0, 0, 0), 90, []int{30, 30, 30}},
		{at(0, 0, 0), 91, []int{30, 30, 30}},
		{at(0, 0, 0), 89, []int{30, 30, 29}},
		{at(0), 17, []int{17}},
		{at(90), math.MaxInt, []int{100}},
		{at(90), math.MinInt, []int{60}},
		{at(-90, -90), math.MinInt, []int{-100, -100}},
		{at(-90, -90), math.MaxInt, []int{-60, -60}},
		// They come nearer to each other, as far as they can in a frame.
		{at(60, 0, -60), 0, []int{30, 0, -30}},
		{at(60, 0, -60), 1, []int{30, 1, -30}},
		{at(60, 0, -60), 40, []int{40, 30, -30}},
		{at(60, 0, -60), -40, []int{30, -30, -40}},
		{at(20, 0, 10, 5), 35, []int{9, 9, 9, 8}},
		// What is left goes to the first that can take it, not to the first.
		{at(-50, 0, 10), 21, []int{-20, 21, 20}},
		{at(-50, 0, 10), 20, []int{-20, 20, 20}},
		// One that is out takes nothing, also of what is left.
		{without(0, at(0, 0, 0)), 50, []int{0, 25, 25}},
		{without(0, at(0, 0, 0)), 51, []int{0, 26, 25}},
		{without(1, at(0, 0, 0)), -61, []int{-30, 0, -30}},
		{without(0, without(1, at(0, 0))), 50, []int{0, 0}},
		{without(0, at(0)), math.MinInt, []int{0}},
		{without(2, at(0, 0, 0, 0)), 1, []int{1, 0, 0, 0}},
		{without(2, at(0, 0, 0, 0)), -1, []int{0, 0, 0, -1}},
	} {
		if to, err := share.Spread(usual(), c.l, c.sum); !slices.Equal(to, c.want) || err != nil {
			t.Errorf("Spread(%v, %d): %v %v, wanted %v", c.l, c.sum, to, err, c.want)
		}
	}
}

// F2: at the greatest rule that may be, and at the least.
func TestSpreadAtTheLimits(t *testing.T) {
	wide := act.Rule{Travel: 1000, Rate: 1000, Confirm: 1}
	least := act.Rule{Travel: 1, Rate: 1, Confirm: 1}
	for _, c := range []struct {
		r    act.Rule
		l    []act.Servo
		sum  int
		want []int
	}{
		{wide, at(0, 0, 0, 0), 4000, []int{1000, 1000, 1000, 1000}},
		{wide, at(0, 0, 0, 0), 3999, []int{1000, 1000, 1000, 999}},
		{wide, at(0, 0, 0, 0), 4001, []int{1000, 1000, 1000, 1000}},
		{wide, at(0, 0, 0, 0), -4000, []int{-1000, -1000, -1000, -1000}},
		{wide, at(0, 0, 0, 0), -3999, []int{-999, -1000, -1000, -1000}},
		{wide, at(1000, -1000, 1000, -1000), 2, []int{1, 0, 1, 0}},
		{least, at(1, -1), 0, []int{0, 0}},
		{least, at(1, -1), 1, []int{1, 0}},
		{least, at(1, -1), -1, []int{0, -1}},
		{least, at(1, 1, 1, 1), -5, []int{0, 0, 0, 0}},
	} {
		if to, err := share.Spread(c.r, c.l, c.sum); !slices.Equal(to, c.want) || err != nil {
			t.Errorf("Spread(%v, %v, %d): %v %v, wanted %v", c.r, c.l, c.sum, to, err, c.want)
		}
	}
}

// taken: what each takes at a level, by where act.Move brings it.
func taken(t *testing.T, r act.Rule, l []act.Servo, level int) (to []int, sum int) {
	t.Helper()
	for _, s := range l {
		next, err := act.Move(r, s, level)
		if err != nil {
			t.Fatalf("Move(%v, %v): %v", r, s, err)
		}
		to = append(to, next.Is)
		sum += next.Is
	}
	return to, sum
}

// told: what is to come of a sum, level by level from the highest down.
func told(t *testing.T, r act.Rule, l []act.Servo, sum int) []int {
	t.Helper()
	_, least := taken(t, r, l, -r.Travel)
	_, most := taken(t, r, l, r.Travel)
	sum = min(max(sum, least), most)
	level := r.Travel
	to, got := taken(t, r, l, level)
	for got > sum {
		level--
		to, got = taken(t, r, l, level)
	}
	more, _ := taken(t, r, l, level+1)
	for i := range to {
		if got < sum && more[i] > to[i] {
			to[i]++
			got++
		}
	}
	return to
}

func draw(d *rand.Rand) (act.Rule, []act.Servo) {
	r := act.Rule{Travel: 1 + d.Intn([]int{3, 30, 1000}[d.Intn(3)]), Confirm: 1 + d.Intn(10)}
	r.Rate, r.Slack = 1+d.Intn(r.Travel), d.Intn(r.Travel+1)
	l := make([]act.Servo, 1+d.Intn(4))
	for i := range l {
		l[i] = act.Servo{Is: d.Intn(2*r.Travel+1) - r.Travel, Bad: d.Intn(r.Confirm)}
		if d.Intn(5) == 0 {
			l[i] = act.Servo{Bad: d.Intn(r.Confirm + 1), Out: true}
		}
	}
	return r, l
}

// F2: drawn servos and sums, against the promise's words step by step, and what is to be true of it all.
func TestSpreadDrawn(t *testing.T) {
	d := rand.New(rand.NewSource(6))
	for range 3000 {
		r, l := draw(d)
		sum := []int{d.Intn(8*r.Travel+3) - 4*r.Travel - 1, share.Sum(l) + d.Intn(7) - 3, 0}[d.Intn(3)]
		to, err := share.Spread(r, l, sum)
		if want := told(t, r, l, sum); !slices.Equal(to, want) || err != nil {
			t.Fatalf("Spread(%v, %v, %d): %v %v, wanted %v", r, l, sum, to, err, want)
		}
		checkWhole(t, r, l, sum, to)
	}
}

// checkWhole: each can go there; together they do what is asked, where they can; and one is above another by more than 1 only where it couldn't be otherwise.
func checkWhole(t *testing.T, r act.Rule, l []act.Servo, sum int, to []int) {
	t.Helper()
	var reach []api.Span
	total, least, most := 0, 0, 0
	for i, s := range l {
		a, err := act.Reach(r, s)
		if err != nil || to[i] < a.Lo || to[i] > a.Hi {
			t.Fatalf("Spread(%v, %v, %d): %v: %d can go %v %v", r, l, sum, to, i, a, err)
		}
		reach = append(reach, a)
		total, least, most = total+to[i], least+a.Lo, most+a.Hi
	}
	if total != min(max(sum, least), most) {
		t.Fatalf("Spread(%v, %v, %d): %v: together %d", r, l, sum, to, total)
	}
	for i := range to {
		for j := range to {
			if to[i] > to[j]+1 && to[i] > reach[i].Lo && to[j] < reach[j].Hi {
				t.Fatalf("Spread(%v, %v, %d): %v: %d and %d could be more even", r, l, sum, to, i, j)
			}
		}
	}
}

// F2: asked for the same again and again, those that aren't out come to be even.
func TestTheyComeToBeEven(t *testing.T) {
	d := rand.New(rand.NewSource(66))
	for range 200 {
		r, l := draw(d)
		sum := d.Intn(2*r.Travel+1) - r.Travel
		for range 2*r.Travel/r.Rate + 2 {
			to, err := share.Spread(r, l, sum)
			if err != nil {
				t.Fatalf("Spread(%v, %v, %d): %v", r, l, sum, err)
			}
			for i := range l {
				l[i].Is = to[i]
			}
		}
		var in []int
		for _, s := range l {
			if !s.Out {
				in = append(in, s.Is)
			}
		}
		if len(in) > 0 && (slices.Max(in)-slices.Min(in) > 1 || share.Sum(l) != sum) {
			t.Errorf("%v: sum %d: in the end %v", r, sum, l)
		}
	}
}

// F3: of any servos, also such that may not be.
func TestSum(t *testing.T) {
	for _, c := range []struct {
		l    []act.Servo
		want int
	}{
		{nil, 0}, {[]act.Servo{}, 0}, {at(7), 7}, {at(7, -9), -2}, {at(100, 100, 100, 100), 400}, {at(-100, -100, -100, -100), -400},
		{at(1, 2, 3, 4, 5, 6), 21}, {at(5000, -1), 4999}, {at(math.MinInt), math.MinInt}, {at(math.MaxInt, -1), math.MaxInt - 1},
		{without(1, at(5, 6, 7)), 12}, {[]act.Servo{{Is: 3, Bad: 99, Out: true}, {Is: 4, Bad: -1}}, 7},
	} {
		if s := share.Sum(c.l); s != c.want {
			t.Errorf("Sum(%v): %d, wanted %d", c.l, s, c.want)
		}
	}
}

// Z2: the list isn't written into, what stands behind it plays no part, and what comes out is fresh each time.
func TestListsAreTheCallers(t *testing.T) {
	all := at(60, 0, -60, 999)
	l, before := all[:3], slices.Clone(all)
	first, err := share.Spread(usual(), l, 40)
	second, _ := share.Spread(usual(), l, 40)
	if err != nil || share.Sum(l) != 0 || !slices.Equal(first, []int{40, 30, -30}) {
		t.Errorf("%v %v, sum %d", first, err, share.Sum(l))
	}
	first[0] = 77
	_ = append(first, 88)
	if !slices.Equal(second, []int{40, 30, -30}) || !slices.Equal(all, before) {
		t.Errorf("shared: %v %v", second, all)
	}
}
