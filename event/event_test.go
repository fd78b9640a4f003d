package event_test

import (
	"math"
	"testing"

	"scorebook/api"
	"scorebook/event"
)

func checkCheck(t *testing.T, e api.Event, want api.Errno) {
	t.Helper()
	if code := event.Check(e); code != want {
		t.Errorf("Check(%+v) = %v, want %v", e, code, want)
	}
}

// uses says which fields a kind uses, with the ranges of the numbers.
type uses struct {
	kind                             api.Kind
	side, player, other, runs, overs [2]int // {0, 0}: not used
	yes, ball                        bool
}

func kinds() []uses {
	side, player := [2]int{1, 2}, [2]int{1, 11}
	return []uses{
		{kind: api.TossEvent, side: side, yes: true},
		{kind: api.OpenEvent, player: player, other: player},
		{kind: api.BowlEvent, player: player},
		{kind: api.BallEvent, ball: true},
		{kind: api.EnterEvent, player: player, yes: true},
		{kind: api.RetireEvent, player: player, yes: true},
		{kind: api.FieldEvent, runs: [2]int{0, 11}},
		{kind: api.KeeperEvent, player: player},
		{kind: api.SubEvent, player: player, yes: true},
		{kind: api.NewBallEvent},
		{kind: api.DeclareEvent, side: side},
		{kind: api.FollowEvent, side: side, yes: true},
		{kind: api.PenaltyEvent, side: side, runs: [2]int{1, 99}},
		{kind: api.ReviewEvent, side: side, yes: true},
		{kind: api.ReviseEvent, runs: [2]int{0, 100_000}, overs: [2]int{0, 90}},
		{kind: api.StopEvent},
	}
}

// least returns the event of a kind that has the least numbers.
func least(u uses) api.Event {
	e := api.Event{Kind: u.kind, Side: u.side[0], Player: u.player[0], Other: u.other[0], Runs: u.runs[0], Overs: u.overs[0]}
	if u.ball {
		e.Ball.Type = api.Fair
	}
	return e
}

// number is a number of an event, with its range in a kind.
type number struct {
	into func(e *api.Event) *int
	in   [2]int
}

func numbers(u uses) []number {
	return []number{
		{func(e *api.Event) *int { return &e.Side }, u.side},
		{func(e *api.Event) *int { return &e.Player }, u.player},
		{func(e *api.Event) *int { return &e.Other }, u.other},
		{func(e *api.Event) *int { return &e.Runs }, u.runs},
		{func(e *api.Event) *int { return &e.Overs }, u.overs},
	}
}

// with returns an event with another number.
func with(e api.Event, n number, value int) api.Event {
	*n.into(&e) = value
	return e
}

// strangers returns an event with something in each field that its kind does not use.
func strangers(u uses, e api.Event) []api.Event {
	var l []api.Event
	for _, n := range numbers(u) {
		if n.in == [2]int{} {
			l = append(l, with(e, n, 1), with(e, n, -1), with(e, n, math.MinInt), with(e, n, math.MaxInt))
		}
	}
	if !u.yes {
		other := e
		other.Yes = true
		l = append(l, other)
	}
	if !u.ball {
		for _, d := range []api.Delivery{{Type: api.Fair}, {Source: api.OffBat}, {Runs: 1}, {Short: -1}, {Boundary: 4}, {Crossed: true}, {How: api.Bowled}, {Victim: 1}, {Fielder: 1}, {Second: 1}, {Sub: true}, {Sector: 99}} {
			other := e
			other.Ball = d
			l = append(l, other)
		}
	}
	return l
}

// outside returns an event with each number that its kind uses out of its range.
func outside(u uses, e api.Event) []api.Event {
	var l []api.Event
	for _, n := range numbers(u) {
		if n.in != [2]int{} {
			l = append(l, with(e, n, n.in[0]-1), with(e, n, n.in[1]+1), with(e, n, math.MinInt), with(e, n, math.MaxInt))
		}
	}
	return l
}

// P8.1

func TestCheckAccepts(t *testing.T) {
	for _, u := range kinds() {
		e := least(u)
		checkCheck(t, e, api.OK)
		for _, n := range numbers(u) {
			checkCheck(t, with(e, n, n.in[1]), api.OK)
		}
		if e.Yes = u.yes; e.Yes {
			checkCheck(t, e, api.OK)
		}
	}
	checkCheck(t, api.Event{Kind: api.OpenEvent, Player: 5, Other: 5}, api.OK)
	checkCheck(t, api.Event{Kind: api.ReviseEvent, Runs: 100_000, Overs: 90}, api.OK)
	checkCheck(t, api.Event{Kind: api.BallEvent, Ball: api.Delivery{Type: api.WideBall, Runs: 7, Sector: 8, Second: 11}}, api.OK)
}

func TestCheckRefusesKinds(t *testing.T) {
	for _, k := range []api.Kind{0, api.StopEvent + 1, 100, 255} {
		checkCheck(t, api.Event{Kind: k}, api.ErrType)
		checkCheck(t, api.Event{Kind: k, Side: 1, Player: -1, Other: 12, Yes: true, Runs: 101, Overs: 91, Ball: api.Delivery{Type: 9}}, api.ErrType)
	}
}

func TestCheckRefusesOtherFields(t *testing.T) {
	for _, u := range kinds() {
		for _, e := range strangers(u, least(u)) {
			checkCheck(t, e, api.ErrArg)
		}
	}
}

func TestCheckRefusesNumbers(t *testing.T) {
	for _, u := range kinds() {
		for _, e := range outside(u, least(u)) {
			checkCheck(t, e, api.ErrRange)
		}
	}
	checkCheck(t, api.Event{Kind: api.OpenEvent}, api.ErrRange)
	checkCheck(t, api.Event{Kind: api.PenaltyEvent, Side: 1}, api.ErrRange)
}

func TestCheckRefusesDeliveries(t *testing.T) {
	for _, x := range []struct {
		d    api.Delivery
		want api.Errno
	}{
		{api.Delivery{}, api.ErrType},
		{api.Delivery{Type: 4}, api.ErrType},
		{api.Delivery{Type: api.Fair, How: 11, Runs: 8}, api.ErrType},
		{api.Delivery{Type: api.Fair, Runs: 8}, api.ErrRange},
		{api.Delivery{Type: api.Fair, Sector: 9}, api.ErrRange},
	} {
		checkCheck(t, api.Event{Kind: api.BallEvent, Ball: x.d}, x.want)
	}
}

func TestCheckOtherFieldsGoFirst(t *testing.T) {
	for _, u := range kinds() {
		for _, wrong := range outside(u, least(u)) {
			for _, e := range strangers(u, wrong) {
				checkCheck(t, e, api.ErrArg)
			}
		}
	}
	checkCheck(t, api.Event{Kind: api.BallEvent, Side: 1}, api.ErrArg)
	checkCheck(t, api.Event{Kind: api.BallEvent, Yes: true, Ball: api.Delivery{Type: api.Fair, Runs: 8}}, api.ErrArg)
}
