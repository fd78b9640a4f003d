package innings

import (
	"scorebook/api"
	"scorebook/crease"
	"scorebook/delivery"
	"scorebook/dismissal"
	"scorebook/event"
	"scorebook/field"
	"scorebook/fresh"
	"scorebook/spell"
)

// Step returns the state after an event, or the state as it was and the law that refuses the event.
func Step(r api.Rules, in api.Innings, e api.Event) (api.Innings, api.Law) {
	if law := phaseLaw(r, in, e); law != api.Legal {
		return fresh.Innings(in), law
	}
	next, law := changed(r, in, e)
	if law != api.Legal {
		return next, law
	}
	next.Fresh = e.Kind == api.BallEvent
	if next.Ending == api.NotEnded {
		next.Ending = Ending(r, next)
	}
	return next, api.Legal
}

// phaseLaw returns the law that refuses an event because of the phase of the innings.
func phaseLaw(r api.Rules, in api.Innings, e api.Event) api.Law {
	switch {
	case !Valid(r, in), event.Check(e) != api.OK:
		return api.LawPhase
	case in.Ending != api.NotEnded:
		return api.LawEnded
	case !begun(in) && e.Kind != api.OpenEvent:
		return api.LawPhase
	}
	return api.Legal
}

// changed returns what an event that belongs to the phase makes of a state, or the law that refuses it.
func changed(r api.Rules, in api.Innings, e api.Event) (api.Innings, api.Law) {
	switch e.Kind {
	case api.OpenEvent:
		return crease.Open(in, e.Player, e.Other)
	case api.BowlEvent:
		return spell.Take(r, in, e.Player)
	case api.BallEvent:
		return bowled(r, in, e.Ball)
	case api.EnterEvent:
		if e.Yes {
			return crease.TimeOut(in, e.Player)
		}
		return crease.Enter(in, e.Player)
	case api.RetireEvent:
		return crease.Retire(in, e.Player, e.Yes)
	case api.FieldEvent:
		return field.Outside(in, e.Runs)
	case api.KeeperEvent:
		return field.Keeper(in, e.Player)
	case api.SubEvent:
		return field.Substitute(in, e.Player, e.Yes)
	case api.NewBallEvent:
		return spell.NewBall(r, in)
	}
	return ruled(r, in, e)
}

// ruled returns what a decision of a side or of the umpires makes of a state, or the law that refuses it.
func ruled(r api.Rules, in api.Innings, e api.Event) (api.Innings, api.Law) {
	switch e.Kind {
	case api.DeclareEvent:
		return fresh.Unless(declareLaw(r, in, e), in, func(next *api.Innings) { next.Ending = api.Declared })
	case api.PenaltyEvent:
		return fresh.Unless(penaltyLaw(e), in, func(next *api.Innings) { penalize(next, e.Side) })
	case api.ReviewEvent:
		return fresh.Unless(reviewLaw(r, in, e), in, func(next *api.Innings) {
			if !e.Yes {
				next.Reviews[e.Side-1]++
			}
		})
	case api.ReviseEvent:
		return fresh.Unless(reviseLaw(r, in, e), in, func(next *api.Innings) { revise(next, e) })
	}
	// What is left (TossEvent, FollowEvent, StopEvent) belongs to the match.
	return fresh.Innings(in), api.LawPhase
}

// declareLaw returns the law that refuses a declaration.
func declareLaw(r api.Rules, in api.Innings, e api.Event) api.Law {
	switch {
	case e.Side != in.Side:
		return api.LawSide
	case r.Overs != 0:
		return api.LawDeclare
	}
	return api.Legal
}

// penaltyLaw returns the law that refuses penalty runs.
func penaltyLaw(e api.Event) api.Law {
	if e.Runs != penaltyRuns {
		return api.LawPenalty
	}
	return api.Legal
}

// penalize gives a side penalty runs; those of the other side raise the target.
func penalize(in *api.Innings, side int) {
	switch {
	case side == in.Side:
		*in = Penalty(*in)
	case in.Target > 0:
		in.Target += penaltyRuns
	}
}

// reviewLaw returns the law that refuses a review.
func reviewLaw(r api.Rules, in api.Innings, e api.Event) api.Law {
	if !in.Fresh || in.Reviews[e.Side-1] >= r.Reviews {
		return api.LawReview
	}
	return api.Legal
}

// reviseLaw returns the law that refuses a new target or a new limit of overs.
func reviseLaw(r api.Rules, in api.Innings, e api.Event) api.Law {
	targetFits := e.Runs == 0 || in.Target > 0 && e.Runs > in.Runs
	oversFit := e.Overs == 0 || e.Overs <= r.Overs && e.Overs*r.Balls >= Balls(r, in)
	if r.Overs == 0 || !targetFits || !oversFit || e.Runs == 0 && e.Overs == 0 {
		return api.LawRevise
	}
	return api.Legal
}

// revise sets the target and the limit of overs to those of an event that are not 0.
func revise(in *api.Innings, e api.Event) {
	if e.Runs > 0 {
		in.Target = e.Runs
	}
	if e.Overs > 0 {
		in.Overs = e.Overs
	}
}

// bowled returns what a delivery makes of a state, or the law that refuses it.
func bowled(r api.Rules, in api.Innings, d api.Delivery) (api.Innings, api.Law) {
	return fresh.Unless(ballLaw(r, in, d), in, func(next *api.Innings) {
		c := delivery.Credit(r, d)
		score(next, c)
		*next = crease.Ran(*next, d)
		over := false
		if *next, over = spell.Ball(r, *next, c.Counts); over {
			*next = crease.Change(*next)
		}
		next.FreeHit = freeAfter(r, d, in.FreeHit)
	})
}

// ballLaw returns the law that refuses a delivery.
func ballLaw(r api.Rules, in api.Innings, d api.Delivery) api.Law {
	if crease.Vacant(in) {
		return api.LawWaiting
	}
	if in.Bowler == 0 {
		return api.LawBowler
	}
	if law := field.Ready(r, in); law != api.Legal {
		return law
	}
	if law := delivery.Legal(d); law != api.Legal {
		return law
	}
	if law := dismissal.Possible(d, in.FreeHit); law != api.Legal {
		return law
	}
	return field.Named(in, d)
}

// score counts the runs of a delivery.
func score(in *api.Innings, c api.Credit) {
	in.Runs += delivery.Total(c)
	in.Extras.Wides += c.Wides
	in.Extras.NoBalls += c.NoBalls
	in.Extras.Byes += c.Byes
	in.Extras.LegByes += c.LegByes
}

// freeAfter reports whether the delivery after one is a free hit; free: that one was.
func freeAfter(r api.Rules, d api.Delivery, free bool) bool {
	switch d.Type {
	case api.Fair:
		return false
	case api.NoBall:
		return free || r.FreeHit
	}
	return free
}
