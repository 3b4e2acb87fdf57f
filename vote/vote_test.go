package vote_test

import (
	"math"
	"math/rand"
	"testing"

	"fulmar/api"
	"fulmar/vote"
)

const (
	worth   = 1000000
	confirm = 10
)

type samples = [3]api.Sample

// say: a sample that is there.
func say(n int) api.Sample { return api.Sample{There: true, Is: n} }

// none: a sample that isn't there, whatever number stands in it.
func none(n int) api.Sample { return api.Sample{Is: n} }

// D1: which rules may be.
func TestCheckRule(t *testing.T) {
	for _, r := range []vote.Rule{{0, 1}, {0, confirm}, {worth, 1}, {worth, confirm}, {1, 2}, {500, 5}} {
		if err := vote.CheckRule(r); err != nil {
			t.Errorf("CheckRule(%v): %v", r, err)
		}
	}
	for _, r := range wrongRules() {
		if err := vote.CheckRule(r); err != api.ErrRange {
			t.Errorf("CheckRule(%v): %v", r, err)
		}
	}
}

func wrongRules() []vote.Rule {
	return []vote.Rule{
		{-1, 1}, {worth + 1, 1}, {0, 0}, {0, confirm + 1}, {0, -1}, {-worth, 5}, {},
		{math.MaxInt, 1}, {math.MinInt, 1}, {0, math.MaxInt}, {0, math.MinInt}, {-1, 0},
	}
}

// D1: which banks may be.
func TestCheck(t *testing.T) {
	for _, b := range []vote.Bank{
		{}, {Last: worth}, {Last: -worth}, {Bad: [3]int{confirm, confirm, confirm}}, {Bad: [3]int{0, 1, 9}, Out: [3]bool{true, true, true}},
		{Bad: [3]int{9, 0, 0}, Out: [3]bool{false, true, false}, Last: -7},
	} {
		if err := vote.Check(b); err != nil {
			t.Errorf("Check(%v): %v", b, err)
		}
	}
	for _, b := range wrongBanks() {
		if err := vote.Check(b); err != api.ErrForm {
			t.Errorf("Check(%v): %v", b, err)
		}
	}
}

func wrongBanks() []vote.Bank {
	l := []vote.Bank{{Last: worth + 1}, {Last: -worth - 1}, {Last: math.MaxInt}, {Last: math.MinInt}}
	for i := range 3 {
		for _, n := range []int{-1, confirm + 1, math.MaxInt, math.MinInt} {
			var b vote.Bank
			b.Bad[i] = n
			out := b
			out.Out[i] = true
			l = append(l, b, out)
		}
	}
	return l
}

// D2: the errors of a step, the rule's ahead of the bank's, the bank's ahead of the samples'; with them there is nothing else.
func TestStepErrors(t *testing.T) {
	fineRule, fineBank := vote.Rule{Limit: 5, Confirm: 2}, vote.Bank{Last: 3}
	far := samples{say(worth + 1), say(0), say(0)}
	told := func(b vote.Bank, r vote.Rule, in samples, want error) {
		t.Helper()
		next, v, err := vote.Step(b, r, in)
		if next != (vote.Bank{}) || v != (vote.Vote{}) || err != want {
			t.Errorf("Step(%v, %v, %v): %v %v %v, wanted %v", b, r, in, next, v, err, want)
		}
	}
	for _, r := range wrongRules() {
		told(fineBank, r, samples{}, api.ErrRange)
		told(wrongBanks()[0], r, samples{}, api.ErrRange)
	}
	for _, b := range wrongBanks() {
		told(b, fineRule, samples{say(1), say(1), say(1)}, api.ErrForm)
		told(b, fineRule, far, api.ErrForm)
	}
	for i := range 3 {
		for _, n := range []int{worth + 1, -worth - 1, math.MaxInt, math.MinInt} {
			in := samples{say(1), say(1), say(1)}
			in[i] = say(n)
			told(fineBank, fineRule, in, api.ErrRange)
			out := fineBank
			out.Out[i] = true
			told(out, fineRule, in, api.ErrRange)
		}
	}
}

// D2: what is voted, by who counts.
func TestWhatIsVoted(t *testing.T) {
	out := func(l ...int) (o [3]bool) {
		for _, i := range l {
			o[i] = true
		}
		return o
	}
	for _, c := range []struct {
		out [3]bool
		in  samples
		is  int
		of  int
	}{
		{out(), samples{say(10), say(12), say(90)}, 12, 3},
		{out(), samples{say(90), say(10), say(12)}, 12, 3},
		{out(), samples{say(12), say(90), say(10)}, 12, 3},
		{out(), samples{say(10), say(90), say(12)}, 12, 3},
		{out(), samples{say(7), say(7), say(-worth)}, 7, 3},
		{out(), samples{say(worth), say(worth), say(-worth)}, worth, 3},
		{out(), samples{say(10), say(13), none(90)}, 11, 2},
		{out(), samples{say(13), none(math.MaxInt), say(10)}, 11, 2},
		{out(0), samples{say(90), say(10), say(13)}, 11, 2},
		{out(), samples{none(0), say(-10), say(-13)}, -12, 2},
		{out(), samples{none(0), say(-1), say(0)}, -1, 2},
		{out(), samples{say(worth), say(worth - 1), none(0)}, worth - 1, 2},
		{out(), samples{say(-worth), say(1 - worth), none(0)}, -worth, 2},
		{out(), samples{say(-worth), none(math.MinInt), say(worth)}, 0, 2},
		{out(1), samples{say(5), say(90), none(7)}, 5, 1},
		{out(0, 1), samples{say(5), say(90), say(-worth)}, -worth, 1},
		{out(0, 1), samples{say(5), say(90), none(8)}, 33, 0},
		{out(0, 1, 2), samples{say(5), say(90), say(8)}, 33, 0},
		{out(), samples{none(5), none(math.MaxInt), none(math.MinInt)}, 33, 0},
	} {
		b := vote.Bank{Out: c.out, Last: 33}
		next, v, err := vote.Step(b, vote.Rule{Limit: 5, Confirm: 10}, c.in)
		if v != (vote.Vote{Is: c.is, Of: c.of}) || err != nil || next.Last != c.is {
			t.Errorf("Step(%v, %v): %v %v %v, wanted %d of %d", b, c.in, next, v, err, c.is, c.of)
		}
	}
}

// D2: who is fine: exactly Limit away is, one more isn't, nor is one that says nothing.
func TestWhoIsFine(t *testing.T) {
	r := vote.Rule{Limit: 5, Confirm: 3}
	for _, c := range []struct {
		in  samples
		bad [3]int
	}{
		{samples{say(10), say(15), say(20)}, [3]int{0, 0, 0}},
		{samples{say(9), say(15), say(21)}, [3]int{2, 0, 2}},
		{samples{say(-9), say(-15), say(-21)}, [3]int{2, 0, 2}},
		{samples{say(10), say(12), say(90)}, [3]int{0, 0, 2}},
		{samples{say(10), say(20), none(15)}, [3]int{0, 0, 2}},
		{samples{say(10), say(21), none(15)}, [3]int{0, 2, 2}},
		{samples{say(9), say(20), none(15)}, [3]int{0, 2, 2}},
		{samples{none(0), say(10), none(10)}, [3]int{2, 0, 2}},
		{samples{none(7), none(7), none(7)}, [3]int{2, 2, 2}},
	} {
		b := vote.Bank{Bad: [3]int{1, 1, 1}, Last: 7}
		next, _, err := vote.Step(b, r, c.in)
		if next.Bad != c.bad || next.Out != [3]bool{} || err != nil {
			t.Errorf("Step(%v, %v): %v %v, wanted %v", b, c.in, next, err, c.bad)
		}
	}
}

// D2: a channel is out once it was bad as often as Confirm says, one behind the other, and stays so as it is.
func TestWhoIsPutOut(t *testing.T) {
	for sure := 1; sure <= confirm; sure++ {
		r := vote.Rule{Limit: 5, Confirm: sure}
		var b vote.Bank
		lies, honest := samples{say(10), say(10), say(90)}, samples{say(10), say(10), say(12)}
		step := func(in samples, bad int, out bool) {
			t.Helper()
			next, _, err := vote.Step(b, r, in)
			if err != nil || next.Bad != [3]int{0, 0, bad} || next.Out != [3]bool{false, false, out} {
				t.Fatalf("Confirm %d: Step(%v, %v): %v %v, wanted bad %d, out %v", sure, b, in, next, err, bad, out)
			}
			b = next
		}
		for n := 1; n < sure; n++ {
			step(lies, n, false)
		}
		step(honest, 0, false)
		for n := 1; n < sure; n++ {
			step(lies, n, false)
		}
		step(lies, sure, true)
		step(honest, sure, true)
		step(lies, sure, true)
		step(samples{say(10), say(10), none(0)}, sure, true)
	}
}

// D2: Bad never goes above MaxConfirm, whatever bank comes in; one that is put out has what it has then.
func TestBadStaysAtItsEnd(t *testing.T) {
	b := vote.Bank{Bad: [3]int{confirm, confirm - 1, confirm}, Out: [3]bool{false, false, true}, Last: 4}
	next, v, err := vote.Step(b, vote.Rule{Confirm: confirm}, samples{none(0), none(0), say(4)})
	want := vote.Bank{Bad: [3]int{confirm, confirm, confirm}, Out: [3]bool{true, true, true}, Last: 4}
	if next != want || v != (vote.Vote{Is: 4}) || err != nil {
		t.Errorf("%v %v %v, wanted %v", next, v, err, want)
	}
	// More often bad than Confirm asks, and not out yet: a fine sample clears it, a bad one puts it out.
	b = vote.Bank{Bad: [3]int{7, 7, 3}, Out: [3]bool{false, false, true}}
	next, _, err = vote.Step(b, vote.Rule{Confirm: 2}, samples{say(1), none(1), say(1)})
	want = vote.Bank{Bad: [3]int{0, 8, 3}, Out: [3]bool{false, true, true}, Last: 1}
	if next != want || err != nil {
		t.Errorf("%v %v, wanted %v", next, err, want)
	}
}

// middle: what is voted, by trying all numbers that were said; of two the greatest number that isn't above their half.
func middle(l []int, last int) int {
	switch len(l) {
	case 0:
		return last
	case 2:
		return int(math.Floor(float64(l[0]+l[1]) / 2))
	}
	for _, x := range l {
		below, above := 0, 0
		for _, y := range l {
			if y < x {
				below++
			}
			if y > x {
				above++
			}
		}
		if below <= 1 && above <= 1 {
			return x
		}
	}
	return math.MaxInt
}

// D2: many steps behind each other, against the promise's own words.
func TestStepsAtRandom(t *testing.T) {
	d := rand.New(rand.NewSource(4))
	for range 3000 {
		r := vote.Rule{Limit: d.Intn(12), Confirm: 1 + d.Intn(confirm)}
		b := vote.Bank{Last: d.Intn(40) - 20}
		for range 15 {
			var in samples
			var l []int
			for i := range in {
				in[i] = api.Sample{There: d.Intn(6) > 0, Is: d.Intn(40) - 20}
				if in[i].There && !b.Out[i] {
					l = append(l, in[i].Is)
				}
			}
			want := b
			want.Last = middle(l, b.Last)
			for i, s := range in {
				if b.Out[i] {
					continue
				}
				if s.There && math.Abs(float64(s.Is-want.Last)) <= float64(r.Limit) {
					want.Bad[i] = 0
					continue
				}
				want.Bad[i]++
				want.Out[i] = want.Bad[i] >= r.Confirm
			}
			next, v, err := vote.Step(b, r, in)
			if next != want || v != (vote.Vote{Is: want.Last, Of: len(l)}) || err != nil {
				t.Fatalf("Step(%v, %v, %v): %v %v %v, wanted %v", b, r, in, next, v, err, want)
			}
			b = next
		}
	}
}

// D2: who is honest stays, whatever one other says or leaves out, if noise is at most half of Limit.
func TestWhoIsHonestStays(t *testing.T) {
	d := rand.New(rand.NewSource(5))
	for range 500 {
		noise := d.Intn(10)
		r := vote.Rule{Limit: 2 * noise, Confirm: 1}
		liar := d.Intn(3)
		var b vote.Bank
		for range 20 {
			is := d.Intn(2000) - 1000
			var in samples
			for i := range in {
				in[i] = say(is + d.Intn(2*noise+1) - noise)
			}
			in[liar] = api.Sample{There: d.Intn(4) > 0, Is: d.Intn(4000) - 2000}
			next, v, err := vote.Step(b, r, in)
			if err != nil || v.Is < is-noise || v.Is > is+noise {
				t.Fatalf("Step(%v, %v, %v): %v %v, it is %d", b, r, in, v, err, is)
			}
			b = next
			for i, out := range b.Out {
				if out && i != liar {
					t.Fatalf("%d is out, the liar is %d", i, liar)
				}
			}
		}
	}
}

// D3: how many aren't out, whatever else stands in the bank.
func TestLeft(t *testing.T) {
	for k := range 8 {
		b := vote.Bank{Bad: [3]int{math.MinInt, 5, math.MaxInt}, Last: math.MaxInt}
		want := 3
		for i := range 3 {
			if k>>i&1 == 1 {
				b.Out[i] = true
				want--
			}
		}
		if n := vote.Left(b); n != want {
			t.Errorf("Left(%v): %d, wanted %d", b, n, want)
		}
	}
}
