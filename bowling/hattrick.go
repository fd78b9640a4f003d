package bowling

import (
	"scorebook/api"
	"scorebook/log"
)

// HatTrick is the kind of the marks of HatTricks.
const HatTrick = 5

const minTrick = 3 // deliveries of the shortest hat-trick

// identity tells the bowlers of a match apart: both sides have a player 1.
type identity struct{ side, player int }

// HatTricks returns the events with which a bowler took wickets with three or more deliveries in succession.
func HatTricks(r api.Rules, l []api.Event) ([]api.Mark, api.Errno) {
	if e := log.Check(r, l); e != api.OK {
		return nil, e
	}
	var marks []api.Mark
	played, m, _, _ := log.Play(r, l)
	row := map[identity]int{} // for each bowler, with how many deliveries in succession a wicket was taken
	for _, p := range played {
		bowler := identity{side: 3 - m.Innings[p.Innings].Side, player: p.Bowler}
		if !p.Credit.Wicket {
			delete(row, bowler)
			continue
		}
		row[bowler]++
		if n := row[bowler]; n >= minTrick {
			marks = append(marks, api.Mark{Kind: HatTrick, Player: p.Bowler, Value: n, Event: p.Event})
		}
	}
	return marks, api.OK
}
