// Package samples has rules and logs for the tests of the layers that read logs.
package samples

import (
	"scorebook/api"
	"scorebook/event"
	"scorebook/match"
)

// Limited returns rules of a match of one innings a side, with free hits and a powerplay.
func Limited() api.Rules {
	return api.Rules{
		Name: "LIMITED", Side: 4, Innings: 1, Overs: 4, Balls: 4, Wide: 2, NoBall: 3,
		FreeHit: true, Reviews: 1, Outside: 1, Power: []api.Phase{{From: 1, To: 1, Outside: 0}},
	}
}

// Long returns rules of a match of two innings a side, without a limit of overs and with the follow-on.
func Long() api.Rules {
	return api.Rules{Name: "LONG", Side: 4, Innings: 2, Balls: 5, Wide: 1, NoBall: 4, NewBall: 1, FollowOn: 3, Reviews: 2}
}

// Big returns rules of a match with sides of eleven players and without free hits, in which wickets often fall in succession.
func Big() api.Rules {
	return api.Rules{Name: "BIG", Side: 11, Innings: 2, Balls: 4, Wide: 1, NoBall: 2, NewBall: 2, FollowOn: 1, Reviews: 1}
}

// Bad returns rules with each error that rules may have, by the error.
func Bad() map[api.Errno]api.Rules {
	nameless, small, odd, tight, many, order := Limited(), Limited(), Limited(), Limited(), Limited(), Limited()
	nameless.Name = ""
	small.Side = 1
	odd.FollowOn = 9
	tight.Overs, tight.Quota = 90, 1
	many.Power = make([]api.Phase, 9)
	order.Power = []api.Phase{{From: 2, To: 2}, {From: 1, To: 1}}
	return map[api.Errno]api.Rules{
		api.ErrName: nameless, api.ErrRange: small, api.ErrArg: odd, api.ErrConflict: tight, api.ErrLimit: many, api.ErrOrder: order,
	}
}

// Example returns the rules and the log of the example that the document gives of a match: side 2 wins by 1 wicket.
func Example() (api.Rules, []api.Event) {
	r := api.Rules{Name: "EXAMPLE", Side: 2, Innings: 1, Overs: 1, Balls: 4, Wide: 1, NoBall: 1}
	return r, Log("TOSS 1 BAT\nOPEN 1 2\nKEEPER 2\nBOWL 1\nBALL 1\nBALL ./B1\nOPEN 2 1\nKEEPER 1\nBOWL 2\nBALL w\nBALL F\n")
}

// Log returns the log of a text; it panics if there is none, as a test has it wrong then.
func Log(src string) []api.Event {
	l, diags := event.ParseLog(src)
	if len(diags) > 0 {
		panic("not a log: " + src)
	}
	return l
}

// Wides returns a log of n events (at least 4): the beginning of an innings, and then wides.
func Wides(n int) []api.Event {
	l := Log("TOSS 1 BAT\nOPEN 1 2\nKEEPER 2\nBOWL 1\n")
	for len(l) < n {
		l = append(l, api.Event{Kind: api.BallEvent, Ball: api.Delivery{Type: api.WideBall}})
	}
	return l
}

// Faulty returns logs with each error that a log of rules without one may have, by the error.
func Faulty() map[api.Errno][][]api.Event {
	return map[api.Errno][][]api.Event{
		api.ErrLaw:   {Log("OPEN 1 2\n"), Log("TOSS 1 BAT\nOPEN 1 2\nBALL .\n"), {{}}, make([]api.Event, api.MaxEvents)},
		api.ErrLimit: {Wides(api.MaxEvents + 1), make([]api.Event, api.MaxEvents+1)},
	}
}

// Symbols returns symbols of deliveries that are legal in many states.
func Symbols() []string {
	return []string{
		".", "1", "2-1", "3", "F@3", "1F", "S", "7", "w", "w2", "wF", "n.", "n1", "nb2", "nl3-1", "nS@8", "b2", "bF", "l1", "l2F",
		"./B1", "./L1", "1/R2(1)", "./C1(2)", "./C1(2)@5", "1x/R1(2,3)", "n./R1(2)", "w1x/R1(1s)", "./S1(2)", "./H1", "./O2",
	}
}

// Play returns a log of accepted events: as many as are legal of some tries, which are made by a function that picks a number below another one.
func Play(pick func(n int) int, r api.Rules, tries int) []api.Event {
	m, bad := match.New(r)
	if bad != api.OK {
		panic("not rules: " + r.Name)
	}
	var l []api.Event
	for range tries {
		e := try(pick, m)
		next, law := match.Step(m, e)
		if law == api.Legal {
			m, l = next, append(l, e)
		}
	}
	return l
}

// try returns an event that is often legal in a state.
func try(pick func(n int) int, m api.Match) api.Event {
	switch m.Stage {
	case api.BeforeToss:
		return api.Event{Kind: api.TossEvent, Side: 1 + pick(2), Yes: pick(2) == 0}
	case api.BeforeInnings:
		return api.Event{Kind: api.OpenEvent, Player: 1 + pick(m.Rules.Side), Other: 1 + pick(m.Rules.Side)}
	case api.Choice:
		return api.Event{Kind: api.FollowEvent, Side: m.First, Yes: pick(2) == 0}
	case api.Finished:
		return api.Event{Kind: api.StopEvent}
	}
	if pick(4) == 0 {
		return other(pick, m.Rules.Side)
	}
	return due(pick, m.Rules.Side, m.Innings[len(m.Innings)-1])
}

// due returns an event that the state of an innings waits for: a player who is missing, or a delivery.
func due(pick func(n int) int, side int, in api.Innings) api.Event {
	player := 1 + pick(side)
	switch {
	case in.Striker == 0 || in.Other == 0:
		return api.Event{Kind: api.EnterEvent, Player: player}
	case in.Keeper == 0:
		return api.Event{Kind: api.KeeperEvent, Player: player}
	case in.Bowler == 0:
		return api.Event{Kind: api.BowlEvent, Player: player}
	}
	symbols := Symbols()
	e, _ := event.Parse("BALL " + symbols[pick(len(symbols))])
	return e
}

// other returns an event that may come between deliveries.
func other(pick func(n int) int, players int) api.Event {
	player, side, yes := 1+pick(players), 1+pick(2), pick(2) == 0
	l := []api.Event{
		{Kind: api.BowlEvent, Player: player}, {Kind: api.KeeperEvent, Player: player}, {Kind: api.SubEvent, Player: player, Yes: yes},
		{Kind: api.EnterEvent, Player: player, Yes: yes}, {Kind: api.RetireEvent, Player: player, Yes: yes}, {Kind: api.PenaltyEvent, Side: side, Runs: 5},
		{Kind: api.FieldEvent, Runs: pick(3)}, {Kind: api.ReviewEvent, Side: side, Yes: yes}, {Kind: api.NewBallEvent},
	}
	if pick(10) == 0 {
		l = rare(pick, side)
	}
	return l[pick(len(l))]
}

// rare returns events of which a match has few.
func rare(pick func(n int) int, side int) []api.Event {
	if pick(8) == 0 {
		return []api.Event{{Kind: api.StopEvent}}
	}
	return []api.Event{{Kind: api.DeclareEvent, Side: side}, {Kind: api.ReviseEvent, Overs: 1 + pick(4)}, {Kind: api.ReviseEvent, Runs: 1 + pick(60)}}
}
