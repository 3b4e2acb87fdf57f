package console_test

import (
	"fmt"
	"math/rand"
	"regexp"
	"slices"
	"strconv"
	"strings"
	"testing"

	"fulmar/api"
	"fulmar/console"
	"fulmar/fcc"
	"fulmar/plant"
)

// table: what the chapter's table says, told once more, by patterns: N stands for a number.
type table struct {
	c       api.Craft
	faults  []api.Fault
	steps   []api.Step
	reports []api.Report
}

const n = `(0|-?[1-9][0-9]{0,9})`

var (
	setLine   = regexp.MustCompile(`^set ([01]) ([a-z]+) ` + n + `$`)
	faultLine = regexp.MustCompile(`^fault` + strings.Repeat(" "+n, 5) + `$`)
	stepLine  = regexp.MustCompile(`^step` + strings.Repeat(" "+n, 7) + ` ([01]) ([1-9]|[1-9][0-9]|[12][0-9][0-9]|300)$`)
	atLine    = regexp.MustCompile(`^at ` + n + `$`)
)

func toInts(t *testing.T, l []string) []int {
	t.Helper()
	var out []int
	for _, s := range l {
		x, err := strconv.Atoi(s)
		if err != nil {
			t.Fatal(err)
		}
		out = append(out, x)
	}
	return out
}

// told: an error, if there is one, else s.
func told(err error, s string) string {
	if err != nil {
		return fmt.Sprint("error ", int(err.(api.Errno)))
	}
	return s
}

// place of a field.
func (b *table) place(axis int, name string) *int {
	a := &b.c.Axes[axis]
	names := strings.Fields("lo hi noise push surfaces travel rate slack limit confirm watch turn build")
	i := slices.Index(names, name)
	if i < 0 {
		return nil
	}
	return []*int{&a.Lo, &a.Hi, &a.Noise, &a.Push, &a.Surfaces, &a.Travel, &a.Rate, &a.Slack, &a.Limit, &a.Confirm, &a.Watch, &a.Turn, &a.Build}[i]
}

func (b *table) answer(t *testing.T, line string) string {
	if m := setLine.FindStringSubmatch(line); m != nil {
		x := toInts(t, []string{m[1], m[3]})
		p := b.place(x[0], m[2])
		if p == nil {
			return "bad"
		}
		*p = x[1]
		return told(fcc.Check(b.c), "ok")
	}
	if m := faultLine.FindStringSubmatch(line); m != nil {
		x := toInts(t, m[1:])
		f := api.Fault{At: x[0], Kind: x[1], Axis: x[2], Unit: x[3], Is: x[4]}
		err := plant.CheckFault(b.c, f)
		if err == nil {
			b.faults = append(b.faults, f)
		}
		return told(err, "ok")
	}
	if m := stepLine.FindStringSubmatch(line); m != nil {
		x := toInts(t, m[1:])
		s := api.Step{Stick: [2]int{x[0], x[1]}, Push: [2]int{x[2], x[3]}, Noise: [2]int{x[4], x[5]}, Speed: x[6], Ground: x[7] == 1}
		err := plant.CheckStep(b.c, s)
		for range x[8] {
			if err == nil {
				b.steps = append(b.steps, s)
			}
		}
		return told(err, "ok")
	}
	if m := atLine.FindStringSubmatch(line); m != nil {
		i := toInts(t, m[1:])[0]
		if i < 0 || i >= len(b.reports) {
			return "error 1"
		}
		r := b.reports[i]
		return fmt.Sprint(r.Is[0], r.Is[1], r.Law, r.Left[0], r.Left[1], r.Sound[0], r.Sound[1])
	}
	return b.bare(line)
}

// bare lines, of one word.
func (b *table) bare(line string) string {
	switch line {
	case "fly":
		r, err := plant.Fly(b.c, b.faults, b.steps)
		if err == nil {
			b.reports = r
		}
		return told(err, fmt.Sprint(len(r)))
	case "edges":
		if len(b.reports) == 0 {
			return "error 5"
		}
		var l [2][]int
		for _, r := range b.reports {
			l[0], l[1] = append(l[0], r.Is[0]), append(l[1], r.Is[1])
		}
		return fmt.Sprint(slices.Min(l[0]), slices.Max(l[0]), slices.Min(l[1]), slices.Max(l[1]))
	case "clear":
		b.faults, b.steps, b.reports = nil, nil, nil
		return "ok"
	}
	return "bad"
}

// drawn from a list.
func drawn(d *rand.Rand, l ...string) string { return l[d.Intn(len(l))] }

// drawnSet: mostly of fields whose crafts may be.
func drawnSet(d *rand.Rand) string {
	field := drawn(d, "lo -3000", "lo 0", "hi 5000", "hi 1089", "noise 7", "push 15", "push 2000", "surfaces 4", "surfaces 2", "surfaces 3", "surfaces 5", "travel 90", "travel 200",
		"rate 25", "rate 101", "slack 3", "slack 0", "limit 30", "limit 9", "confirm 2", "confirm 0", "watch 5", "watch 10", "turn 99", "turn 1001", "build 0", "build 65536", "wide 3", "gain 3", "Lo 3")
	return "set " + drawn(d, "0", "1", "0", "1", "2", "-1") + " " + field
}

func drawnStep(d *rand.Rand) string {
	return fmt.Sprint("step ", d.Intn(203)-101, " ", d.Intn(203)-101, " ", d.Intn(42)-20, " ", d.Intn(31)-15, " ", d.Intn(1331), " ", d.Intn(1<<33), " ", d.Intn(600), " ", d.Intn(20)/9, " ", d.Intn(40))
}

func drawnLine(d *rand.Rand) string {
	switch d.Intn(12) {
	case 0:
		return drawnSet(d)
	case 1, 2:
		return fmt.Sprint("fault ", d.Intn(40), " ", d.Intn(5), " ", d.Intn(3), " ", d.Intn(4), " ", d.Intn(9000)-4500)
	case 3, 4:
		return drawnStep(d)
	case 5, 6:
		return "fly"
	case 7, 8:
		return fmt.Sprint("at ", d.Intn(70)-2)
	case 9:
		return "edges"
	case 10:
		return drawn(d, "clear", "", "what", "fly ", " fly", "fly 1", "edges 0", "at", "at 0 0", "at 00", "at -0", "step 0 0 0 0 0 0 0 0 300", "fault 0 0 0 0 0 0")
	}
	return drawn(d, "set 0 lo -4000", "set 0 hi 4000", "set 0 rate 30", "set 0 limit 20", "set 1 limit 20", "set 0 travel 100", "set 1 confirm 3", "set 0 push 20", "set 1 push 20")
}

// Q1: drawn sessions are answered as the chapter's table tells it.
func TestDrawnSessions(t *testing.T) {
	d := rand.New(rand.NewSource(71))
	kinds := map[string]int{}
	for range 500 {
		var lines, want []string
		b := &table{c: fcc.Usual()}
		for range 1 + d.Intn(60) {
			line := drawnLine(d)
			lines, want = append(lines, line), append(want, b.answer(t, line))
			word, _, _ := strings.Cut(line, " ")
			kinds[word+": "+strings.TrimRight(want[len(want)-1], "-0123456789 ")]++
		}
		text := strings.Join(lines, "\n") + "\n"
		if got, err := console.Play(text); err != nil || !slices.Equal(got, want) {
			t.Errorf("%s: %q, %v, not %q", text, got, err, want)
		}
	}
	for _, k := range []string{"set: ok", "set: error", "set: bad", "fault: ok", "fault: error", "fault: bad", "step: ok", "step: error", "step: bad", "fly: ", "fly: error", "fly: bad", "at: ", "at: error", "at: bad", "edges: ", "edges: error", "edges: bad", "clear: ok"} {
		if kinds[k] < 5 {
			t.Errorf("%q was drawn %d times only", k, kinds[k])
		}
	}
}
