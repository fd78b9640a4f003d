package innings

import (
	"slices"

	"scorebook/api"
	"scorebook/rules"
)

// maxCount bounds what is counted in an innings.
const maxCount = 1_000_000_000

// Valid reports whether a state is one of an innings with these rules.
func Valid(r api.Rules, in api.Innings) bool {
	return rules.Check(r) == api.OK && known(r, in) && battersFit(in) && bowlersFit(r, in) && oversFit(r, in) && countsFit(in)
}

// known reports whether there are the side, the players, the statuses and the ending that a state names.
func known(r api.Rules, in api.Innings) bool {
	return within(in.Side, 1, 2) && in.Ending <= api.Stopped &&
		len(in.Batters) == r.Side && len(in.Bowled) == r.Side && len(in.Subs) == r.Side &&
		within(in.Striker, 0, r.Side) && within(in.Other, 0, r.Side) &&
		within(in.Bowler, 0, r.Side) && within(in.Keeper, 0, r.Side) &&
		!slices.ContainsFunc(in.Batters, func(s api.Status) bool { return s > api.Hurt })
}

// battersFit reports whether the places, the statuses and the wickets go together.
func battersFit(in api.Innings) bool {
	empty := in.Striker == 0 && in.Other == 0
	if in.Striker == in.Other && !empty || empty && begun(in) {
		return false
	}
	dismissed := 0
	for i, s := range in.Batters {
		placed := i+1 == in.Striker || i+1 == in.Other
		if placed != (s == api.Batting) {
			return false
		}
		if s == api.Dismissed {
			dismissed++
		}
	}
	return in.Wickets == dismissed
}

// begun reports whether the opening batters have come in.
func begun(in api.Innings) bool {
	return slices.ContainsFunc(in.Batters, func(s api.Status) bool { return s != api.Waiting })
}

// bowlersFit reports whether the bowlers of the present over, and those of the over before, are different players.
func bowlersFit(r api.Rules, in api.Innings) bool {
	return differ(in.Bowlers, r.Side) && differ(in.Before, r.Side)
}

// differ reports whether all elements are different numbers from 1 to most.
func differ(l []int, most int) bool {
	for i, n := range l {
		if !within(n, 1, most) || slices.Contains(l[:i], n) {
			return false
		}
	}
	return true
}

// oversFit reports whether the limit of overs and the balls of the present over are in the ranges of the rules.
func oversFit(r api.Rules, in api.Innings) bool {
	// Rules without a limit allow no other number than 0, the others none below 1.
	return within(in.Overs, min(r.Overs, 1), r.Overs) && within(in.InOver, 0, r.Balls-1)
}

// countsFit reports whether all that is counted is within the bound.
func countsFit(in api.Innings) bool {
	return counts(in.Target, in.Runs, in.Complete, in.BallAge, in.Outside, in.Reviews[0], in.Reviews[1]) &&
		counts(in.Extras.Wides, in.Extras.NoBalls, in.Extras.Byes, in.Extras.LegByes, in.Extras.Penalties) &&
		counts(in.Bowled...)
}

// counts reports whether all numbers are from 0 to the bound.
func counts(l ...int) bool {
	return !slices.ContainsFunc(l, func(n int) bool { return !within(n, 0, maxCount) })
}
