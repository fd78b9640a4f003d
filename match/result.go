package match

import (
	"strings"

	"scorebook/api"
	"scorebook/innings"
	"scorebook/overs"
	"scorebook/text"
)

// Outcome returns the result that the innings of a match have, if it is decided.
func Outcome(m api.Match) api.Result {
	n := len(m.Innings)
	if n == 0 || !Valid(m) {
		return api.Result{}
	}
	in := present(m)
	switch {
	case in.Ending == api.NotEnded:
		return api.Result{}
	case in.Ending == api.Stopped:
		return unfinished(m.Rules)
	case n == most(m):
		return chased(m.Rules, in)
	case n == 3 && behind(m):
		winner := opponent(in.Side)
		return api.Result{Win: api.ByInnings, Side: winner, Margin: lead(m, winner)}
	}
	return api.Result{}
}

// unfinished returns the result of a match that is stopped.
func unfinished(r api.Rules) api.Result {
	if r.Overs == 0 {
		return api.Result{Win: api.Drawn}
	}
	return api.Result{Win: api.NoResult}
}

// chased returns the result of a match of which the last innings has ended.
func chased(r api.Rules, in api.Innings) api.Result {
	switch short := in.Target - 1 - in.Runs; {
	case short < 0:
		return api.Result{Win: api.ByWickets, Side: in.Side, Margin: r.Side - 1 - in.Wickets}
	case short == 0:
		return api.Result{Win: api.Tied}
	default:
		return api.Result{Win: api.ByRuns, Side: opponent(in.Side), Margin: short}
	}
}

// Scores returns the scores of the innings.
func Scores(m api.Match) []api.Score {
	var l []api.Score
	for _, in := range m.Innings {
		l = append(l, api.Score{
			Side: in.Side, Runs: in.Runs, Wickets: in.Wickets, Balls: innings.Balls(m.Rules, in),
			Extras: in.Extras, Ending: in.Ending,
		})
	}
	return l
}

// Text returns a line with the scores and the result.
func Text(m api.Match) string {
	if !Valid(m) {
		return ""
	}
	var parts []string
	for _, s := range Scores(m) {
		parts = append(parts, scoreText(m.Rules, s))
	}
	if m.Stage == api.Finished {
		parts = append(parts, resultText(m.Result))
	}
	return strings.Join(parts, "; ")
}

// scoreText returns the text of the score of an innings.
func scoreText(r api.Rules, s api.Score) string {
	// More balls than layer overs knows have no text.
	balls, _ := overs.Text(s.Balls, r.Balls)
	line := decimal(s.Side) + " " + decimal(s.Runs) + "/" + decimal(s.Wickets) + " " + balls
	if s.Ending == api.Declared {
		line += " D"
	}
	return line
}

// resultText returns the text of a result, which is empty if it is not decided.
func resultText(r api.Result) string {
	won := "SIDE " + decimal(r.Side) + " WON BY "
	switch r.Win {
	case api.ByRuns:
		return won + decimal(r.Margin) + " RUNS"
	case api.ByWickets:
		return won + decimal(r.Margin) + " WICKETS"
	case api.ByInnings:
		return won + "AN INNINGS AND " + decimal(r.Margin) + " RUNS"
	case api.Tied:
		return "TIED"
	case api.Drawn:
		return "DRAWN"
	case api.NoResult:
		return "NO RESULT"
	}
	return ""
}

func decimal(n int) string { return text.Decimal(int64(n)) }
