package match_test

import (
	"math/rand"
	"slices"
	"testing"

	"scorebook/api"
	"scorebook/event"
	"scorebook/innings"
	"scorebook/match"
)

// total returns the runs of a side, by the document.
func total(m api.Match, side int) int {
	n := 0
	for _, in := range m.Innings {
		if in.Side == side {
			n += in.Runs
		}
	}
	return n
}

// step does what the document says of Step; it changes its own copy of the state.
func step(m api.Match, e api.Event) (api.Match, api.Law) {
	if len(broken(m)) > 0 || event.Check(e) != api.OK {
		return m, api.LawPhase
	}
	if m.Stage == api.Finished {
		return m, api.LawEnded
	}
	next, law := byKind(match.Clone(m), e)
	if law != api.Legal {
		return m, law
	}
	return closed(next), api.Legal
}

// byKind does what the document says of the kinds of events.
func byKind(m api.Match, e api.Event) (api.Match, api.Law) {
	last := len(m.Innings) - 1
	stages := map[api.Kind]api.Stage{api.TossEvent: api.BeforeToss, api.OpenEvent: api.BeforeInnings, api.FollowEvent: api.Choice, api.StopEvent: m.Stage}
	stage, ok := stages[e.Kind]
	if !ok {
		stage = api.InPlay
	}
	if m.Stage != stage {
		return m, api.LawPhase
	}
	law := api.Legal
	switch e.Kind {
	case api.TossEvent:
		m.First, m.Stage = e.Side, api.BeforeInnings
		if !e.Yes {
			m.First = map[int]int{1: 2, 2: 1}[e.Side]
		}
	case api.OpenEvent:
		return opened(m, e)
	case api.FollowEvent:
		if e.Side != m.First {
			return m, api.LawSide
		}
		m.Follow, m.Stage = e.Yes, api.BeforeInnings
	case api.StopEvent:
		if m.Stage == api.InPlay {
			m.Innings[last].Ending = api.Stopped
		}
		m.Stage, m.Result = api.Finished, api.Result{Win: api.NoResult}
		if m.Rules.Overs == 0 {
			m.Result = api.Result{Win: api.Drawn}
		}
	default:
		m.Innings[last], law = innings.Step(m.Rules, m.Innings[last], e)
	}
	if e.Kind == api.PenaltyEvent && law == api.Legal && e.Side != m.Innings[last].Side {
		latest := -1
		for i, in := range m.Innings {
			if in.Side == e.Side {
				latest = i
			}
		}
		if latest < 0 {
			m.Penalty[e.Side-1] += 5
		} else {
			m.Innings[latest].Runs += 5
			m.Innings[latest].Extras.Penalties += 5
		}
	}
	return m, law
}

// opened does what the document says of opening batters.
func opened(m api.Match, e api.Event) (api.Match, api.Law) {
	bats := side(m, len(m.Innings))
	target := 0
	if len(m.Innings) == 2*m.Rules.Innings-1 {
		target = total(m, 3-bats) - total(m, bats) + 1
	}
	in, bad := innings.Begin(m.Rules, bats, target, m.Penalty[bats-1])
	if bad != api.OK {
		return m, api.LawPhase
	}
	in, law := innings.Step(m.Rules, in, e)
	if law != api.Legal {
		return m, law
	}
	m.Penalty[bats-1] = 0
	m.Innings, m.Stage = append(m.Innings, in), api.InPlay
	return m, api.Legal
}

// closed closes the present innings if it has ended.
func closed(m api.Match) api.Match {
	n := len(m.Innings)
	if m.Stage != api.InPlay || m.Innings[n-1].Ending == api.NotEnded {
		return m
	}
	ends := n == 2*m.Rules.Innings
	if n == 3 && total(m, m.Innings[2].Side) < total(m, 3-m.Innings[2].Side) {
		ends = true
	}
	switch {
	case ends:
		m.Stage = api.Finished
		m.Result = outcome(m)
	case n == 2 && m.Rules.FollowOn > 0 && total(m, m.First) >= total(m, 3-m.First)+m.Rules.FollowOn:
		m.Stage = api.Choice
	default:
		m.Stage = api.BeforeInnings
	}
	return m
}

// randomEvent returns an event of a kind, mostly one that fits.
func randomEvent(s *rand.Rand, k api.Kind, side int) api.Event {
	player := func() int { return s.Intn(side+1) + s.Intn(2) }
	e := api.Event{Kind: k}
	yes := s.Intn(2) == 0
	switch k {
	case api.TossEvent, api.FollowEvent, api.ReviewEvent:
		e.Side, e.Yes = 1+s.Intn(2), yes
	case api.DeclareEvent:
		e.Side = 1 + s.Intn(2)
	case api.OpenEvent:
		e.Player, e.Other = player(), player()
	case api.BowlEvent, api.KeeperEvent:
		e.Player = player()
	case api.EnterEvent, api.RetireEvent, api.SubEvent:
		e.Player, e.Yes = player(), yes
	case api.BallEvent:
		lines := []string{".", "1", "2", "F", "S", "w", "n1", "b2", "l1", "./B1", "./B1", "./L1", "1/R1(1)", "x/R2(2)", "./C1(1)", "1F", "./B2"}
		e, _ = event.Parse("BALL " + lines[s.Intn(len(lines))])
	case api.FieldEvent:
		e.Runs = s.Intn(3)
	case api.PenaltyEvent:
		e.Side, e.Runs = 1+s.Intn(2), 5+s.Intn(20)/19
	case api.ReviseEvent:
		e.Runs, e.Overs = s.Intn(40)*s.Intn(2), s.Intn(4)*s.Intn(2)
	}
	if s.Intn(60) == 0 {
		e.Other++
	}
	return e
}

// checkStep compares Step with the document, looks for shared memory, and returns the state.
func checkStep(t *testing.T, m api.Match, e api.Event) (api.Match, api.Law) {
	t.Helper()
	before := match.Clone(m)
	want, wantLaw := step(m, e)
	after, law := match.Step(m, e)
	if law != wantLaw || !match.Same(after, want) || !match.Same(m, before) {
		t.Fatalf("state %+v, event %+v: %+v, law %d, want %+v, law %d", before, e, after, law, want, wantLaw)
	}
	if shares(pair{m, after}) {
		t.Fatalf("state %+v, event %+v: memory is shared", before, e)
	}
	room := max(m.Penalty[0], m.Penalty[1]) <= maxWaiting-5
	if match.Valid(before) && room && !match.Valid(after) {
		t.Fatalf("state %+v, event %+v: not valid: %+v", before, e, after)
	}
	return after, law
}

// P15.4

func TestStepFromRandomStates(t *testing.T) {
	s := rand.New(rand.NewSource(3))
	laws, legal := map[api.Law]int{}, map[api.Kind]int{}
	stages := map[[2]api.Stage]int{}
	for range 3000 {
		for _, r := range ruleSets() {
			m := randomMatch(s, r)
			if s.Intn(6) == 0 {
				damage(s, &m)
			}
			for k := range api.StopEvent + 2 {
				after, law := checkStep(t, m, randomEvent(s, k, r.Side))
				laws[law]++
				if law == api.Legal {
					legal[k]++
					stages[[2]api.Stage{m.Stage, after.Stage}]++
				}
			}
		}
	}
	for _, law := range []api.Law{api.LawPhase, api.LawSide, api.LawPlayer, api.LawCrease, api.LawEnded, api.LawPenalty, api.LawDeclare} {
		if laws[law] < 50 {
			t.Errorf("law %d: met %d times", law, laws[law])
		}
	}
	for k := api.TossEvent; k <= api.StopEvent; k++ {
		if legal[k] < 50 {
			t.Errorf("kind %d: legal %d times", k, legal[k])
		}
	}
	for _, way := range [][2]api.Stage{
		{api.BeforeToss, api.BeforeInnings}, {api.BeforeInnings, api.InPlay}, {api.BeforeInnings, api.Finished}, {api.InPlay, api.BeforeInnings},
		{api.InPlay, api.InPlay}, {api.InPlay, api.Choice}, {api.InPlay, api.Finished}, {api.Choice, api.BeforeInnings},
		{api.BeforeToss, api.Finished}, {api.Choice, api.Finished},
	} {
		if stages[way] < 20 {
			t.Errorf("stages %v: met %d times", way, stages[way])
		}
	}
}

// TestStepPlays plays matches from the toss on with random events.
func TestStepPlays(t *testing.T) {
	s := rand.New(rand.NewSource(4))
	wins, follows := map[api.Win]int{}, 0
	for range 400 {
		for _, r := range ruleSets() {
			m, _ := match.New(r)
			for range 1500 {
				if m.Stage == api.Finished {
					break
				}
				m, _ = checkStep(t, m, randomEvent(s, randomKind(s, m), r.Side))
			}
			wins[m.Result.Win]++
			if m.Follow {
				follows++
			}
		}
	}
	for w := api.ByRuns; w <= api.NoResult; w++ {
		if wins[w] < 10 {
			t.Errorf("result %d: met %d times", w, wins[w])
		}
	}
	if follows < 10 {
		t.Errorf("the follow-on: met %d times", follows)
	}
}

// randomKind returns a kind of event that a match may go on with, mostly.
func randomKind(s *rand.Rand, m api.Match) api.Kind {
	kinds := []api.Kind{api.BowlEvent, api.BallEvent, api.BallEvent, api.BallEvent, api.EnterEvent, api.KeeperEvent}
	switch m.Stage {
	case api.BeforeToss:
		kinds = []api.Kind{api.TossEvent}
	case api.BeforeInnings:
		kinds = []api.Kind{api.OpenEvent}
	case api.Choice:
		kinds = []api.Kind{api.FollowEvent}
	}
	if s.Intn(25) > 0 {
		return kinds[s.Intn(len(kinds))]
	}
	k := api.Kind(s.Intn(18))
	if k == api.StopEvent && s.Intn(3) > 0 {
		k = api.PenaltyEvent
	}
	return k
}

func TestStepKeepsItsArgument(t *testing.T) {
	s := rand.New(rand.NewSource(5))
	m := full()
	for range 50 {
		for k := range api.StopEvent + 2 {
			checkStep(t, m, randomEvent(s, k, 3))
		}
	}
	if !isFull(m) {
		t.Errorf("the argument became %+v", m)
	}
}

// line is a line with the law that refuses it.
type line struct {
	text string
	want api.Law
}

// play plays lines one after the other, and returns the state behind the last one.
func play(t *testing.T, m api.Match, l ...line) api.Match {
	t.Helper()
	for _, x := range l {
		e, bad := event.Parse(x.text)
		if bad != api.OK {
			t.Fatalf("%q is no line", x.text)
		}
		law := api.Legal
		if m, law = checkStep(t, m, e); law != x.want {
			t.Fatalf("%s: law %d, want %d", x.text, law, x.want)
		}
	}
	return m
}

// legal plays lines that no law refuses.
func legal(t *testing.T, m api.Match, l ...string) api.Match {
	t.Helper()
	for _, x := range l {
		m = play(t, m, line{x, api.Legal})
	}
	return m
}

// bat plays an innings of a side of 2 in which some runs are scored before a wicket falls.
func bat(t *testing.T, m api.Match, balls ...string) api.Match {
	t.Helper()
	m = legal(t, m, "OPEN 1 2", "KEEPER 2", "BOWL 1")
	for _, b := range balls {
		m = legal(t, m, "BALL "+b)
	}
	return legal(t, m, "BALL ./B1")
}

// begin returns a match with sides of 2 in which side 1 bats first.
func begin(t *testing.T, r api.Rules) api.Match {
	t.Helper()
	r.Side = 2
	m, e := match.Started(r, 1)
	if e != api.OK {
		t.Fatal(e)
	}
	return m
}

func TestLawsByStage(t *testing.T) {
	all := []string{
		"TOSS 1 BAT", "OPEN 1 2", "BOWL 1", "BALL .", "ENTER 1", "TIMEOUT 1", "RETIRE 1 OUT", "FIELD 0", "KEEPER 1", "SUB 1 ON", "NEWBALL",
		"DECLARE 1", "FOLLOW 1 YES", "PENALTY 1 5", "PENALTY 1 4", "REVIEW 1 KEPT", "REVISE 0 1", "STOP",
	}
	toss, _ := match.New(long())
	before := begin(t, long())
	inPlay := legal(t, before, "OPEN 1 2")
	choice := bat(t, bat(t, before, "F"))
	finished := legal(t, before, "STOP")
	for _, x := range []struct {
		m     api.Match
		legal []string
		law   api.Law
	}{
		{toss, []string{"TOSS 1 BAT", "STOP"}, api.LawPhase},
		{before, []string{"OPEN 1 2", "STOP"}, api.LawPhase},
		{choice, []string{"FOLLOW 1 YES", "STOP"}, api.LawPhase},
		{finished, nil, api.LawEnded},
		{api.Match{}, nil, api.LawPhase},
	} {
		for _, text := range all {
			want := x.law
			if slices.Contains(x.legal, text) {
				want = api.Legal
			}
			play(t, x.m, line{text, want})
		}
	}
	for _, x := range []line{
		{"TOSS 1 BAT", api.LawPhase}, {"OPEN 1 2", api.LawPhase}, {"OPEN 3 3", api.LawPhase}, {"FOLLOW 1 YES", api.LawPhase}, {"FOLLOW 2 YES", api.LawPhase},
		{"BALL .", api.LawBowler}, {"ENTER 1", api.LawCrease}, {"DECLARE 2", api.LawSide}, {"DECLARE 1", api.Legal}, {"PENALTY 2 4", api.LawPenalty},
		{"REVIEW 2 KEPT", api.LawReview}, {"REVISE 0 1", api.LawRevise}, {"NEWBALL", api.LawNewBall}, {"STOP", api.Legal},
	} {
		play(t, inPlay, x)
	}
	// The laws of the opening batters are those of the innings.
	play(t, before, line{"OPEN 3 1", api.LawPlayer}, line{"OPEN 1 3", api.LawPlayer}, line{"OPEN 2 2", api.LawCrease})
	play(t, choice, line{"FOLLOW 2 YES", api.LawSide}, line{"FOLLOW 2 NO", api.LawSide})
	// An event that has an error is refused by the phase, even at the end.
	if _, law := checkStep(t, finished, api.Event{Kind: api.StopEvent, Side: 1}); law != api.LawPhase {
		t.Errorf("an event that has an error: law %d", law)
	}
	if _, law := checkStep(t, toss, api.Event{Kind: api.TossEvent, Side: 3}); law != api.LawPhase {
		t.Errorf("the toss of side 3: law %d", law)
	}
}

func TestToss(t *testing.T) {
	for _, x := range []struct {
		line  string
		first int
	}{{"TOSS 1 BAT", 1}, {"TOSS 1 FIELD", 2}, {"TOSS 2 BAT", 2}, {"TOSS 2 FIELD", 1}} {
		m, _ := match.New(limited())
		m = legal(t, m, x.line)
		if m.First != x.first || m.Stage != api.BeforeInnings || match.Batting(m) != x.first {
			t.Errorf("%s: %+v", x.line, m)
		}
	}
}

func TestTargets(t *testing.T) {
	// One innings a side: the target of the second one is one more than the first one.
	m := bat(t, begin(t, limited()), "F", "3")
	m = legal(t, m, "OPEN 2 1")
	if m.Innings[0].Target != 0 || m.Innings[1].Target != 8 || m.Innings[1].Side != 2 || m.Innings[1].Striker != 2 {
		t.Errorf("one innings a side: %+v", m)
	}
	// Two innings a side: only the last one has a target, which takes all others into account.
	m = bat(t, bat(t, bat(t, begin(t, long()), "3"), "1"), "S")
	m = legal(t, m, "OPEN 1 2")
	for i, want := range []int{0, 0, 0, 9} {
		if m.Innings[i].Target != want {
			t.Errorf("two innings a side, innings %d: target %d", i, m.Innings[i].Target)
		}
	}
	// After the follow-on the first side chases.
	m = legal(t, bat(t, bat(t, begin(t, long()), "S", "1"), "2"), "FOLLOW 1 YES")
	m = legal(t, bat(t, m, "S", "S"), "OPEN 1 2")
	if in := m.Innings[3]; in.Side != 1 || in.Target != 8 {
		t.Errorf("after the follow-on: %+v", in)
	}
}

func TestTargetOutOfRange(t *testing.T) {
	// The runs of the first innings are too many for a target, or less than none.
	m := bat(t, begin(t, limited()))
	for _, x := range []struct {
		runs int
		want api.Law
	}{{999_999, api.Legal}, {1_000_000, api.LawPhase}, {1_000_000_000, api.LawPhase}} {
		m.Innings[0].Runs = x.runs
		play(t, m, line{"OPEN 1 2", x.want})
	}
	m = bat(t, bat(t, bat(t, begin(t, long()), "3"), "1"), "2")
	m.Innings[2].Runs = 0
	m.Innings[1].Runs = 4
	play(t, m, line{"OPEN 1 2", api.Legal})
	m.Innings[1].Runs = 5
	play(t, m, line{"OPEN 1 2", api.LawPhase})
	// A target of 0 is none: the innings goes on.
	m.Innings[1].Runs = 4
	m = legal(t, m, "OPEN 1 2", "KEEPER 2", "BOWL 1", "BALL F")
	if m.Stage != api.InPlay || m.Innings[3].Target != 0 {
		t.Errorf("without a target: %+v", m)
	}
}

func TestPenaltyRuns(t *testing.T) {
	// Those of a side that has not batted wait for its first innings.
	m := legal(t, begin(t, limited()), "OPEN 1 2", "PENALTY 2 5", "PENALTY 2 5", "PENALTY 1 5")
	if m.Penalty != [2]int{0, 10} || m.Innings[0].Runs != 5 || m.Innings[0].Extras.Penalties != 5 || match.Total(m, 2) != 0 {
		t.Errorf("while they wait: %+v", m)
	}
	m = legal(t, m, "KEEPER 2", "BOWL 1", "BALL S", "BALL ./B1", "OPEN 1 2")
	if in := m.Innings[1]; m.Penalty != [2]int{} || in.Runs != 10 || in.Extras.Penalties != 10 || in.Target != 12 {
		t.Errorf("in the first innings: %+v", m)
	}
	// Those of the side that fields go to its latest innings, and raise the target.
	m = legal(t, m, "PENALTY 1 5")
	if m.Penalty != [2]int{} || m.Innings[0].Runs != 16 || m.Innings[0].Extras.Penalties != 10 || m.Innings[1].Target != 17 || m.Innings[1].Runs != 10 {
		t.Errorf("in the last innings: %+v", m)
	}
	// Those of the side that bats may reach the target.
	m = legal(t, m, "PENALTY 2 5", "PENALTY 2 5")
	if m.Stage != api.Finished || m.Result != (api.Result{Win: api.ByWickets, Side: 2, Margin: 1}) || m.Innings[1].Ending != api.TargetReached {
		t.Errorf("at the target: %+v", m)
	}
}

func TestPenaltyRunsOfTheLatestInnings(t *testing.T) {
	m := legal(t, bat(t, bat(t, bat(t, begin(t, long()), "3"), "1"), "S"), "OPEN 1 2", "PENALTY 1 5")
	if m.Innings[0].Runs != 3 || m.Innings[2].Runs != 11 || m.Innings[3].Target != 14 {
		t.Errorf("in the last innings: %+v", m)
	}
	// With the follow-on the latest innings of the side that fields is not the one before.
	m = legal(t, bat(t, bat(t, begin(t, long()), "S"), "1"), "FOLLOW 1 YES", "OPEN 1 2", "PENALTY 1 5", "PENALTY 2 5")
	if m.Innings[0].Runs != 11 || m.Innings[1].Runs != 1 || m.Innings[2].Runs != 5 || m.Innings[2].Target != 0 {
		t.Errorf("with the follow-on: %+v", m)
	}
}

func TestPenaltyRunsReachTheTargetAtOnce(t *testing.T) {
	// What waits is enough to win: the innings ends with its opening batters.
	m := legal(t, begin(t, limited()), "OPEN 1 2", "PENALTY 2 5", "KEEPER 2", "BOWL 1", "BALL F", "BALL ./B1", "OPEN 1 2")
	if m.Stage != api.Finished || m.Result != (api.Result{Win: api.ByWickets, Side: 2, Margin: 1}) || len(m.Innings) != 2 {
		t.Errorf("after the opening batters: %+v", m)
	}
}

func TestFollowOnIsDue(t *testing.T) {
	for _, x := range []struct {
		first, second string
		followOn      int
		want          api.Stage
	}{
		{"F", ".", 4, api.Choice}, {"3", ".", 4, api.BeforeInnings}, {"5", "1", 4, api.Choice}, {"S", "2", 4, api.Choice}, {"S", "3", 4, api.BeforeInnings},
		{".", "S", 4, api.BeforeInnings}, {"S", ".", 0, api.BeforeInnings}, {".", ".", 0, api.BeforeInnings}, {"1", ".", 1, api.Choice}, {"1", "1", 1, api.BeforeInnings},
	} {
		r := long()
		r.FollowOn = x.followOn
		m := bat(t, bat(t, begin(t, r), x.first), x.second)
		if m.Stage != x.want || m.Follow {
			t.Errorf("%+v: stage %d", x, m.Stage)
		}
	}
	m := bat(t, bat(t, begin(t, long()), "F"))
	if n := legal(t, m, "FOLLOW 1 NO"); n.Follow || n.Stage != api.BeforeInnings || match.Batting(n) != 1 {
		t.Errorf("not enforced: %+v", n)
	}
	if n := legal(t, m, "FOLLOW 1 YES"); !n.Follow || n.Stage != api.BeforeInnings || match.Batting(n) != 2 {
		t.Errorf("enforced: %+v", n)
	}
	// A choice is made anew, whatever the state says of it.
	m.Follow = true
	if n := legal(t, m, "FOLLOW 1 NO"); n.Follow {
		t.Errorf("not enforced any more: %+v", n)
	}
}

func TestThirdInnings(t *testing.T) {
	// The match ends after three innings only if the side is behind.
	for _, x := range []struct {
		first, second, third string
		want                 api.Stage
	}{
		{"2", "5", "2", api.Finished}, {"2", "5", "3", api.BeforeInnings}, {"2", "5", "F", api.BeforeInnings}, {"2", "1", ".", api.BeforeInnings},
	} {
		m := bat(t, bat(t, bat(t, begin(t, long()), x.first), x.second), x.third)
		if m.Stage != x.want || x.want == api.Finished && m.Result != (api.Result{Win: api.ByInnings, Side: 2, Margin: 1}) {
			t.Errorf("%+v: stage %d, %+v", x, m.Stage, m.Result)
		}
	}
	m := legal(t, bat(t, bat(t, begin(t, long()), "S"), "1"), "FOLLOW 1 YES")
	if n := bat(t, m, "5"); n.Stage != api.BeforeInnings {
		t.Errorf("after the follow-on, level: %+v", n)
	}
	if n := bat(t, m, "F"); n.Stage != api.Finished || n.Result != (api.Result{Win: api.ByInnings, Side: 1, Margin: 1}) {
		t.Errorf("after the follow-on, behind: %+v", n)
	}
}

func TestStop(t *testing.T) {
	for _, x := range []struct {
		r    api.Rules
		want api.Win
	}{{limited(), api.NoResult}, {long(), api.Drawn}} {
		toss, _ := match.New(x.r)
		before := begin(t, x.r)
		for _, m := range []api.Match{toss, before, legal(t, before, "OPEN 1 2"), bat(t, before, "F"), legal(t, bat(t, before, "F"), "OPEN 2 1")} {
			m.Result = api.Result{Win: api.ByRuns, Side: 2, Margin: 7}
			after := legal(t, m, "STOP")
			n := len(m.Innings)
			if after.Stage != api.Finished || after.Result != (api.Result{Win: x.want}) || after.First != m.First || len(after.Innings) != n {
				t.Errorf("%s: %+v", x.r.Name, after)
			}
			if m.Stage == api.InPlay && after.Innings[n-1].Ending != api.Stopped {
				t.Errorf("%s: the innings is not stopped", x.r.Name)
			}
			if m.Stage == api.BeforeInnings && n > 0 && after.Innings[n-1].Ending != api.AllOut {
				t.Errorf("%s: an innings that had ended is stopped", x.r.Name)
			}
		}
	}
	choice := bat(t, bat(t, begin(t, long()), "F"))
	if m := legal(t, choice, "STOP"); m.Stage != api.Finished || m.Result != (api.Result{Win: api.Drawn}) || m.Innings[1].Ending != api.AllOut {
		t.Errorf("instead of a choice: %+v", m)
	}
}

func TestStepBeyondTheBound(t *testing.T) {
	m := legal(t, begin(t, limited()), "OPEN 1 2")
	m.Penalty[1] = maxWaiting
	e, _ := event.Parse("PENALTY 2 5")
	m, law := match.Step(m, e)
	if law != api.Legal || m.Penalty[1] != maxWaiting+5 || match.Valid(m) {
		t.Errorf("law %d, %+v", law, m)
	}
	// The last innings ends, but the first one passes its bound: a state that is not valid has no result.
	m = legal(t, bat(t, begin(t, limited())), "OPEN 1 2")
	m.Innings[0].Runs, m.Innings[1].Complete = 1_000_000_000, 2
	e, _ = event.Parse("PENALTY 1 5")
	m, law = match.Step(m, e)
	if law != api.Legal || m.Stage != api.Finished || m.Result != (api.Result{}) || match.Valid(m) {
		t.Errorf("law %d, %+v", law, m)
	}
}
