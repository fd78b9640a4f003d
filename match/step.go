package match

import (
	"scorebook/api"
	"scorebook/event"
	"scorebook/innings"
)

const penaltyRuns = 5

// Step returns the state after an event, or the state as it was and the law that refuses the event.
func Step(m api.Match, e api.Event) (api.Match, api.Law) {
	next := Clone(m)
	law := stageLaw(m, e)
	if law == api.Legal {
		law = happen(&next, e)
	}
	if law == api.Legal {
		closeInnings(&next)
	}
	return next, law
}

// stageLaw returns the law that refuses an event because of the stage of the match.
func stageLaw(m api.Match, e api.Event) api.Law {
	switch {
	case !Valid(m), event.Check(e) != api.OK:
		return api.LawPhase
	case m.Stage == api.Finished:
		return api.LawEnded
	case e.Kind != api.StopEvent && m.Stage != stageOf(e.Kind):
		return api.LawPhase
	}
	return api.Legal
}

// stageOf returns the only stage to which events of a kind belong.
func stageOf(k api.Kind) api.Stage {
	switch k {
	case api.TossEvent:
		return api.BeforeToss
	case api.OpenEvent:
		return api.BeforeInnings
	case api.FollowEvent:
		return api.Choice
	}
	return api.InPlay
}

// happen lets an event of the present stage happen, unless a law refuses it.
func happen(m *api.Match, e api.Event) api.Law {
	switch e.Kind {
	case api.TossEvent:
		toss(m, e)
		return api.Legal
	case api.OpenEvent:
		return open(m, e)
	case api.FollowEvent:
		return follow(m, e)
	case api.PenaltyEvent:
		return penalize(m, e)
	case api.StopEvent:
		stop(m)
		return api.Legal
	}
	return play(m, e)
}

// toss lets the side that won the toss choose who bats first.
func toss(m *api.Match, e api.Event) {
	m.First = e.Side
	if !e.Yes {
		m.First = opponent(e.Side)
	}
	m.Stage = api.BeforeInnings
}

// open begins the next innings with its opening batters, unless a law refuses it.
func open(m *api.Match, e api.Event) api.Law {
	side := Batting(*m)
	begun, bad := innings.Begin(m.Rules, side, target(*m, side), m.Penalty[side-1])
	if bad != api.OK {
		return api.LawPhase
	}
	in, law := innings.Step(m.Rules, begun, e)
	if law != api.Legal {
		return law
	}
	m.Penalty[side-1] = 0
	m.Innings = append(m.Innings, in)
	m.Stage = api.InPlay
	return api.Legal
}

// target returns the target of a side in the next innings, 0 if it is not the last one.
func target(m api.Match, side int) int {
	if len(m.Innings) < most(m)-1 {
		return 0
	}
	return lead(m, opponent(side)) + 1
}

// follow lets the side that batted first enforce the follow-on or not, unless a law refuses it.
func follow(m *api.Match, e api.Event) api.Law {
	if e.Side != m.First {
		return api.LawSide
	}
	m.Follow = e.Yes
	m.Stage = api.BeforeInnings
	return api.Legal
}

// penalize gives penalty runs to a side, unless a law refuses it.
func penalize(m *api.Match, e api.Event) api.Law {
	law := play(m, e)
	if law == api.Legal && e.Side != present(*m).Side {
		award(m, e.Side)
	}
	return law
}

// award adds penalty runs to the latest innings of the side that does not bat; without one, they wait.
func award(m *api.Match, side int) {
	for i := len(m.Innings) - 1; i >= 0; i-- {
		if m.Innings[i].Side == side {
			m.Innings[i] = innings.Penalty(m.Innings[i])
			return
		}
	}
	m.Penalty[side-1] += penaltyRuns
}

// stop ends a match without a winner.
func stop(m *api.Match) {
	if m.Stage == api.InPlay {
		m.Innings[len(m.Innings)-1].Ending = api.Stopped
	}
	m.Stage = api.Finished
	m.Result = unfinished(m.Rules)
}

// play lets an event happen in the present innings, unless a law refuses it.
func play(m *api.Match, e api.Event) api.Law {
	in, law := innings.Step(m.Rules, present(*m), e)
	if law == api.Legal {
		m.Innings[len(m.Innings)-1] = in
	}
	return law
}

// closeInnings goes on to the next stage if the present innings has ended.
func closeInnings(m *api.Match) {
	if m.Stage != api.InPlay || !ended(present(*m)) {
		return
	}
	n := len(m.Innings)
	switch {
	case n == most(*m), n == 3 && behind(*m):
		// The stage comes first, as the state has to be valid to have a result.
		m.Stage = api.Finished
		m.Result = Outcome(*m)
	case n == 2 && m.Rules.FollowOn > 0 && lead(*m, m.First) >= m.Rules.FollowOn:
		m.Stage = api.Choice
	default:
		m.Stage = api.BeforeInnings
	}
}

// behind reports whether the side of the last innings has fewer runs than the other one.
func behind(m api.Match) bool { return lead(m, present(m).Side) < 0 }
