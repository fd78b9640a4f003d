package legal

import "scorebook/api"

// penaltyRuns are the only penalty runs that are legal.
const penaltyRuns = 5

// candidates returns events of a kind, all legal ones among them, in order; none of deliveries and revisions.
func candidates(k api.Kind) []api.Event {
	plain := []api.Event{{Kind: k}}
	switch k {
	case api.NewBallEvent, api.StopEvent:
		return plain
	case api.TossEvent, api.FollowEvent, api.ReviewEvent:
		return answers(sides(plain))
	case api.DeclareEvent:
		return sides(plain)
	case api.OpenEvent:
		return vary(players(plain), 1, api.MaxSide, func(e *api.Event, n int) { e.Other = n })
	case api.BowlEvent, api.KeeperEvent:
		return players(plain)
	case api.EnterEvent, api.RetireEvent, api.SubEvent:
		return answers(players(plain))
	case api.FieldEvent:
		return runs(plain, 0, api.MaxSide)
	case api.PenaltyEvent:
		return runs(sides(plain), penaltyRuns, penaltyRuns)
	}
	return nil
}

// sides returns each event with each side.
func sides(l []api.Event) []api.Event {
	return vary(l, 1, 2, func(e *api.Event, n int) { e.Side = n })
}

// players returns each event with each player.
func players(l []api.Event) []api.Event {
	return vary(l, 1, api.MaxSide, func(e *api.Event, n int) { e.Player = n })
}

// answers returns each event with both answers, no first.
func answers(l []api.Event) []api.Event {
	return vary(l, 0, 1, func(e *api.Event, n int) { e.Yes = n == 1 })
}

// runs returns each event with each number of runs in a range.
func runs(l []api.Event, lo, hi int) []api.Event {
	return vary(l, lo, hi, func(e *api.Event, n int) { e.Runs = n })
}

// vary returns each event with each number of a range, which set stores in it.
func vary(l []api.Event, lo, hi int, set func(e *api.Event, n int)) []api.Event {
	var all []api.Event
	for _, e := range l {
		for n := lo; n <= hi; n++ {
			set(&e, n)
			all = append(all, e)
		}
	}
	return all
}
