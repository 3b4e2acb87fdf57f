package console

import "fulmar/api"

// field of an axis: where it stands in one.
type field struct {
	of func(a *api.Axis) *int
}

// fields by their names. The gain is none of them: it is no number.
func fields() map[string]field {
	return map[string]field{
		"lo":       {func(a *api.Axis) *int { return &a.Lo }},
		"hi":       {func(a *api.Axis) *int { return &a.Hi }},
		"noise":    {func(a *api.Axis) *int { return &a.Noise }},
		"push":     {func(a *api.Axis) *int { return &a.Push }},
		"surfaces": {func(a *api.Axis) *int { return &a.Surfaces }},
		"travel":   {func(a *api.Axis) *int { return &a.Travel }},
		"rate":     {func(a *api.Axis) *int { return &a.Rate }},
		"slack":    {func(a *api.Axis) *int { return &a.Slack }},
		"limit":    {func(a *api.Axis) *int { return &a.Limit }},
		"confirm":  {func(a *api.Axis) *int { return &a.Confirm }},
		"watch":    {func(a *api.Axis) *int { return &a.Watch }},
		"turn":     {func(a *api.Axis) *int { return &a.Turn }},
		"build":    {func(a *api.Axis) *int { return &a.Build }},
	}
}
