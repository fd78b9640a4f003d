package match_test

import (
	"math/rand"
	"reflect"
	"strconv"
	"testing"

	"scorebook/api"
	"scorebook/innings"
	"scorebook/match"
)

// P15.5

// outcome does what the document says of Outcome.
func outcome(m api.Match) api.Result {
	n := len(m.Innings)
	if len(broken(m)) > 0 || n == 0 {
		return api.Result{}
	}
	last := m.Innings[n-1]
	other := 3 - last.Side
	if last.Ending == api.Stopped {
		return api.Result{Win: map[bool]api.Win{true: api.Drawn, false: api.NoResult}[m.Rules.Overs == 0]}
	}
	if last.Ending == api.NotEnded {
		return api.Result{}
	}
	if n == 2*m.Rules.Innings {
		switch {
		case last.Runs >= last.Target:
			return api.Result{Win: api.ByWickets, Side: last.Side, Margin: m.Rules.Side - 1 - last.Wickets}
		case last.Runs == last.Target-1:
			return api.Result{Win: api.Tied}
		}
		return api.Result{Win: api.ByRuns, Side: other, Margin: last.Target - 1 - last.Runs}
	}
	if mine, others := total(m, last.Side), total(m, other); n == 3 && mine < others {
		return api.Result{Win: api.ByInnings, Side: other, Margin: others - mine}
	}
	return api.Result{}
}

func TestOutcome(t *testing.T) {
	s := rand.New(rand.NewSource(6))
	seen := map[api.Win]int{}
	for range 20000 {
		for _, r := range ruleSets() {
			m := randomMatch(s, r)
			if s.Intn(8) == 0 {
				damage(s, &m)
			}
			before := match.Clone(m)
			got := match.Outcome(m)
			if got != outcome(m) || !match.Same(m, before) {
				t.Fatalf("Outcome of %+v = %+v, want %+v", m, got, outcome(m))
			}
			seen[got.Win]++
		}
	}
	for w := api.Undecided; w <= api.NoResult; w++ {
		if seen[w] < 50 {
			t.Errorf("result %d: met %d times", w, seen[w])
		}
	}
}

func TestOutcomeTells(t *testing.T) {
	r := limited()
	in := func(side, runs, target, wickets int, e api.Ending) api.Innings {
		in, _ := innings.Begin(r, side, target, runs)
		in.Striker, in.Batters[0], in.Ending = 1, api.Batting, e
		for i := range wickets {
			in.Batters[1+i] = api.Dismissed
		}
		in.Wickets = wickets
		return in
	}
	two := func(runs, target, wickets int, e api.Ending) api.Match {
		return api.Match{Rules: r, Stage: api.Finished, First: 1, Innings: []api.Innings{in(1, 9, 0, 2, api.AllOut), in(2, runs, target, wickets, e)}}
	}
	for _, x := range []struct {
		m    api.Match
		want api.Result
	}{
		{two(10, 10, 0, api.TargetReached), api.Result{Win: api.ByWickets, Side: 2, Margin: 2}},
		{two(15, 10, 1, api.TargetReached), api.Result{Win: api.ByWickets, Side: 2, Margin: 1}},
		{two(10, 10, 2, api.AllOut), api.Result{Win: api.ByWickets, Side: 2, Margin: 0}},
		{two(9, 10, 2, api.AllOut), api.Result{Win: api.Tied}},
		{two(9, 10, 2, api.Stopped), api.Result{Win: api.NoResult}},
		{two(10, 10, 2, api.Stopped), api.Result{Win: api.NoResult}},
		{two(8, 10, 2, api.OversDone), api.Result{Win: api.ByRuns, Side: 1, Margin: 1}},
		{two(0, 10, 2, api.Declared), api.Result{Win: api.ByRuns, Side: 1, Margin: 9}},
		{two(0, 0, 0, api.OversDone), api.Result{Win: api.ByWickets, Side: 2, Margin: 2}},
		{api.Match{Rules: r, Stage: api.Finished, First: 1}, api.Result{}},
		{api.Match{Rules: r, Stage: api.BeforeInnings, First: 1, Innings: []api.Innings{in(1, 9, 0, 2, api.AllOut)}}, api.Result{}},
		{api.Match{Rules: r, Stage: api.BeforeInnings, First: 1, Innings: []api.Innings{in(1, 9, 0, 2, api.Stopped)}}, api.Result{Win: api.NoResult}},
		{api.Match{Rules: r, Stage: api.InPlay, First: 1, Innings: []api.Innings{in(1, 9, 0, 2, api.AllOut), in(2, 99, 10, 0, api.NotEnded)}}, api.Result{}},
		{api.Match{Rules: r, Stage: api.BeforeInnings, First: 1, Innings: []api.Innings{in(1, 9, 0, 2, api.AllOut), in(2, 9, 10, 0, api.AllOut)}}, api.Result{}},
		{api.Match{Innings: []api.Innings{{Ending: api.Stopped}}}, api.Result{}},
	} {
		if got := match.Outcome(x.m); got != x.want {
			t.Errorf("Outcome of %+v = %+v, want %+v", x.m, got, x.want)
		}
	}
}

// P15.6

func TestScores(t *testing.T) {
	m := api.Match{Rules: api.Rules{Balls: 6}, Innings: []api.Innings{
		{Side: 1, Runs: 23, Wickets: 4, Complete: 3, InOver: 2, Extras: api.Extras{Wides: 1, NoBalls: 2, Byes: 3, LegByes: 4, Penalties: 5}, Ending: api.OversDone},
		{Side: -9, Runs: -1, Wickets: 99, Complete: -1, InOver: 8, Ending: 77},
		{},
	}}
	want := []api.Score{
		{Side: 1, Runs: 23, Wickets: 4, Balls: 20, Extras: api.Extras{Wides: 1, NoBalls: 2, Byes: 3, LegByes: 4, Penalties: 5}, Ending: api.OversDone},
		{Side: -9, Runs: -1, Wickets: 99, Balls: 2, Ending: 77},
		{},
	}
	if l := match.Scores(m); !reflect.DeepEqual(l, want) {
		t.Errorf("Scores = %+v", l)
	}
	if l := match.Scores(api.Match{Stage: api.Finished}); len(l) != 0 {
		t.Errorf("Scores of nothing = %+v", l)
	}
}

// P15.7: Text

// lineOf does what the document says of Text.
func lineOf(m api.Match) string {
	if len(broken(m)) > 0 {
		return ""
	}
	n := func(i int) string { return strconv.Itoa(i) }
	s := ""
	for i, in := range m.Innings {
		if i > 0 {
			s += "; "
		}
		s += n(in.Side) + " " + n(in.Runs) + "/" + n(in.Wickets) + " " + n(in.Complete) + "." + n(in.InOver)
		if in.Ending == api.Declared {
			s += " D"
		}
	}
	if m.Stage != api.Finished {
		return s
	}
	if len(m.Innings) > 0 {
		s += "; "
	}
	side := "SIDE " + n(m.Result.Side) + " WON BY "
	margin := n(m.Result.Margin)
	return s + map[api.Win]string{
		api.ByRuns: side + margin + " RUNS", api.ByWickets: side + margin + " WICKETS", api.ByInnings: side + "AN INNINGS AND " + margin + " RUNS",
		api.Tied: "TIED", api.Drawn: "DRAWN", api.NoResult: "NO RESULT",
	}[m.Result.Win]
}

func TestText(t *testing.T) {
	s := rand.New(rand.NewSource(7))
	wins := map[api.Win]int{}
	for range 5000 {
		for _, r := range ruleSets() {
			m := randomMatch(s, r)
			if s.Intn(8) == 0 {
				damage(s, &m)
			}
			before := match.Clone(m)
			if got := match.Text(m); got != lineOf(m) || !match.Same(m, before) {
				t.Fatalf("Text of %+v = %q, want %q", m, got, lineOf(m))
			}
			if m.Stage == api.Finished {
				wins[m.Result.Win]++
			}
		}
	}
	for w := range api.NoResult + 2 {
		if wins[w] < 50 {
			t.Errorf("result %d: met %d times", w, wins[w])
		}
	}
}

func TestTextTells(t *testing.T) {
	one := bat(t, begin(t, limited()), "F", "1")
	declared := legal(t, begin(t, long()), "OPEN 1 2", "KEEPER 2", "BOWL 1", "BALL 3", "DECLARE 1")
	finished := legal(t, one, "STOP")
	undecided := match.Clone(finished)
	undecided.Result = api.Result{}
	unknown := match.Clone(finished)
	unknown.Result = api.Result{Win: 7, Side: 1, Margin: 3}
	odd := match.Clone(finished)
	odd.Result = api.Result{Win: api.ByRuns, Side: -1, Margin: -23}
	early, _ := match.New(limited())
	stopped := legal(t, early, "STOP")
	silent := match.Clone(stopped)
	silent.Result = api.Result{}
	endless := bat(t, begin(t, long()))
	endless.Innings[0].Complete, endless.Innings[0].InOver = 200_000, 0
	played := match.Clone(endless)
	played.Innings[0].InOver = 1
	for _, x := range []struct {
		name string
		m    api.Match
		want string
	}{
		{"before the toss", early, ""},
		{"before the innings", begin(t, limited()), ""},
		{"in play", legal(t, one, "OPEN 1 2"), "1 5/1 0.3; 2 0/0 0.0"},
		{"after an innings", one, "1 5/1 0.3"},
		{"declared", declared, "1 3/0 0.1 D"},
		{"stopped", finished, "1 5/1 0.3; NO RESULT"},
		{"stopped without an innings", stopped, "NO RESULT"},
		{"undecided", undecided, "1 5/1 0.3; "},
		{"an unknown result", unknown, "1 5/1 0.3; "},
		{"any numbers of a result", odd, "1 5/1 0.3; SIDE -1 WON BY -23 RUNS"},
		{"undecided without an innings", silent, ""},
		{"the most balls", endless, "1 0/1 200000.0"},
		{"more balls than overs has texts for", played, "1 0/1 "},
		{"not valid", api.Match{Stage: api.Finished, Result: api.Result{Win: api.Tied}}, ""},
	} {
		if got := match.Text(x.m); got != x.want {
			t.Errorf("%s: %q, want %q", x.name, got, x.want)
		}
	}
}

// The example of the document.

func TestExample(t *testing.T) {
	m, e := match.New(api.Rules{Name: "EXAMPLE", Side: 2, Innings: 1, Overs: 1, Balls: 4, Wide: 1, NoBall: 1})
	if e != api.OK {
		t.Fatal(e)
	}
	m = legal(t, m, "TOSS 1 BAT", "OPEN 1 2", "KEEPER 2", "BOWL 1", "BALL 1", "BALL ./B1")
	if s := match.Scores(m); len(s) != 1 || s[0].Runs != 1 || s[0].Ending != api.AllOut || s[0].Balls != 2 {
		t.Errorf("after the first innings: %+v", s)
	}
	m = legal(t, m, "OPEN 2 1", "KEEPER 1", "BOWL 2", "BALL w")
	if in := m.Innings[1]; in.Target != 2 || in.Runs != 1 {
		t.Errorf("after the wide: %+v", in)
	}
	m = legal(t, m, "BALL F")
	if match.Text(m) != "1 1/1 0.2; 2 5/0 0.1; SIDE 2 WON BY 1 WICKETS" {
		t.Errorf("at the end: %q", match.Text(m))
	}
}

func TestResultsOfMatches(t *testing.T) {
	// A defeat by runs, a tie, and one wicket that is left.
	m := bat(t, begin(t, limited()), "3")
	for _, x := range []struct{ ball, want string }{
		{"1", "1 3/1 0.2; 2 1/1 0.2; SIDE 1 WON BY 2 RUNS"},
		{"3", "1 3/1 0.2; 2 3/1 0.2; TIED"},
	} {
		if got := match.Text(bat(t, m, x.ball)); got != x.want {
			t.Errorf("%s: %q", x.ball, got)
		}
	}
	long := legal(t, bat(t, bat(t, begin(t, long()), "5"), "1"), "FOLLOW 1 YES")
	if got := match.Text(bat(t, long, "2")); got != "1 5/1 0.2; 2 1/1 0.2; 2 2/1 0.2; SIDE 1 WON BY AN INNINGS AND 2 RUNS" {
		t.Errorf("an innings: %q", got)
	}
	if got := match.Text(bat(t, bat(t, long, "S"), "1")); got != "1 5/1 0.2; 2 1/1 0.2; 2 6/1 0.2; 1 1/1 0.2; SIDE 2 WON BY 1 RUNS" {
		t.Errorf("after the follow-on: %q", got)
	}
}
