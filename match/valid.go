package match

import (
	"scorebook/api"
	"scorebook/innings"
	"scorebook/rules"
)

// maxWaiting bounds the penalty runs that wait for a side.
const maxWaiting = 1_000_000

// Valid reports whether a state is one of a match.
func Valid(m api.Match) bool {
	return rules.Check(m.Rules) == api.OK && waitingFits(m) && firstFits(m) && inningsFit(m) && stageFits(m)
}

// waitingFits reports whether the penalty runs that wait are within the bound.
func waitingFits(m api.Match) bool {
	for _, n := range m.Penalty {
		if n < 0 || n > maxWaiting {
			return false
		}
	}
	return true
}

// firstFits reports whether the side that bats first is known exactly if it has to be.
func firstFits(m api.Match) bool {
	switch m.Stage {
	case api.BeforeToss:
		return m.First == 0 && len(m.Innings) == 0
	case api.Finished:
		// A match may be stopped before the toss.
		return isSide(m.First) || m.First == 0 && len(m.Innings) == 0
	}
	return isSide(m.First)
}

// inningsFit reports whether the innings are valid, in the order of the sides, and all but a present one have ended.
func inningsFit(m api.Match) bool {
	if len(m.Innings) > most(m) {
		return false
	}
	for i, in := range m.Innings {
		goesOn := m.Stage == api.InPlay && i == len(m.Innings)-1
		if !innings.Valid(m.Rules, in) || in.Side != sideAt(m, i) || ended(in) == goesOn {
			return false
		}
	}
	return true
}

// stageFits reports whether there is such a stage with so many innings, and the follow-on with so many.
func stageFits(m api.Match) bool {
	n := len(m.Innings)
	if m.Follow && (m.Rules.Innings != 2 || n < 2) {
		return false
	}
	switch m.Stage {
	case api.BeforeToss, api.Finished:
		return true
	case api.BeforeInnings:
		return n < most(m)
	case api.InPlay:
		return n > 0
	case api.Choice:
		return m.Rules.Innings == 2 && n == 2
	}
	return false
}
