package batting

import (
	"strings"

	"scorebook/api"
	"scorebook/dismissal"
	"scorebook/squad"
	"scorebook/text"
)

// Text returns the text of a card.
func Text(c []api.BatLine, batting, fielding api.Squad) (string, api.Errno) {
	for _, s := range []api.Squad{batting, fielding} {
		if e := squad.Check(s); e != api.OK {
			return "", e
		}
	}
	var out strings.Builder
	for _, x := range c {
		if e := check(x, batting, fielding); e != api.OK {
			return "", e
		}
		out.WriteString(squad.Title(batting, x.Player) + ": " + told(x, fielding) + "\n")
	}
	return out.String(), api.OK
}

// check returns the error of a line of a card.
func check(x api.BatLine, batting, fielding api.Squad) api.Errno {
	players, fielders := len(batting.Players), len(fielding.Players)
	switch {
	case !within(x.Player, 1, players), !within(x.Bowler, 0, fielders), !within(x.Fielder, 0, fielders), !countable(x):
		return api.ErrRange
	case x.Out && dismissal.Name(x.How) == "":
		return api.ErrType
	}
	return api.OK
}

// told returns what a line tells of its player.
func told(x api.BatLine, fielding api.Squad) string {
	if !x.Batted && !x.Out {
		return "DID NOT BAT"
	}
	score := text.Decimal(int64(x.Runs)) + " (" + text.Decimal(int64(x.Balls)) + ") "
	if !x.Out {
		return score + "NOT OUT"
	}
	return score + dismissal.Name(x.How) + credited(" c ", x.Fielder, fielding) + credited(" b ", x.Bowler, fielding)
}

// credited returns the title of a player behind a sign, nothing for player 0.
func credited(sign string, player int, fielding api.Squad) string {
	if player == 0 {
		return ""
	}
	return sign + squad.Title(fielding, player)
}
