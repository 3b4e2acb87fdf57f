package share

import (
	"fulmar/act"
	"fulmar/api"
	"fulmar/fix"
)

// taker of a share.
type taker interface {
	// takes: where it goes at a level.
	takes(level int) int
}

// free: a surface that goes to the level, as far as it can in this frame.
type free api.Span

func (f free) takes(level int) int { return fix.Clip(level, f.Lo, f.Hi) }

// lost: a surface that is out, and stays at 0, so that the others take what is asked.
type lost struct{}

func (lost) takes(int) int { return 0 }

// takers: a taker for each servo; act.Check's error of the first one that has one.
func takers(r act.Rule, l []act.Servo) ([]taker, error) {
	var who []taker
	for _, s := range l {
		reach, err := act.Reach(r, s)
		if err != nil {
			return nil, err
		}
		if s.Out {
			who = append(who, lost{})
		} else {
			who = append(who, free(reach))
		}
	}
	return who, nil
}

// together: what all take at a level.
func together(who []taker, level int) int {
	sum := 0
	for _, t := range who {
		sum += t.takes(level)
	}
	return sum
}
