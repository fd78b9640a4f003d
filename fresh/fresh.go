// Package fresh makes new states of innings, which share no memory with those from which they are made.
package fresh

import (
	"slices"

	"scorebook/api"
)

// Innings returns a copy that shares no memory.
func Innings(in api.Innings) api.Innings {
	in.Batters = slices.Clone(in.Batters)
	in.Bowlers = slices.Clone(in.Bowlers)
	in.Before = slices.Clone(in.Before)
	in.Bowled = slices.Clone(in.Bowled)
	in.Subs = slices.Clone(in.Subs)
	return in
}

// Unless returns a copy of a state, changed unless a law refuses the change, and the law.
func Unless(law api.Law, in api.Innings, change func(next *api.Innings)) (api.Innings, api.Law) {
	next := Innings(in)
	if law == api.Legal {
		change(&next)
	}
	return next, law
}
