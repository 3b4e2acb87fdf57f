package fcc

import (
	"fulmar/act"
	"fulmar/api"
	"fulmar/guard"
	"fulmar/hold"
	"fulmar/vote"
)

func voteRule(a api.Axis) vote.Rule { return vote.Rule{Limit: a.Limit, Confirm: a.Confirm} }

func speedRule(c api.Craft) vote.Rule { return vote.Rule{Limit: c.Limit, Confirm: c.Confirm} }

func actRule(a api.Axis) act.Rule {
	return act.Rule{Travel: a.Travel, Rate: a.Rate, Slack: a.Slack, Confirm: a.Watch}
}

// guardRule counts on one surface less than there are, so that one may be lost; and a surface within its slack is as good as a gust.
func guardRule(a api.Axis) guard.Rule {
	sure := a.Surfaces - 1
	return guard.Rule{Lo: a.Lo, Hi: a.Hi, Noise: a.Noise, Push: a.Push + a.Slack, Most: a.Travel * sure, Rate: a.Rate * sure}
}

func holdRule(a api.Axis) hold.Rule {
	return hold.Rule{
		Span: api.Span{Lo: a.Lo, Hi: a.Hi},
		Turn: a.Turn, Build: a.Build, Most: guardRule(a).Most, Gain: a.Gain,
	}
}
