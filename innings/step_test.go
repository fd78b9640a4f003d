package innings_test

import (
	"math"
	"math/rand"
	"reflect"
	"testing"

	"scorebook/api"
	"scorebook/crease"
	"scorebook/delivery"
	"scorebook/dismissal"
	"scorebook/event"
	"scorebook/field"
	"scorebook/innings"
	"scorebook/spell"
)

// reason is a law with what has to hold for it to refuse an event.
type reason struct {
	law   api.Law
	holds bool
}

// first returns the first law that refuses, in the order of the document.
func first(l ...reason) api.Law {
	for _, x := range l {
		if x.holds {
			return x.law
		}
	}
	return api.Legal
}

// firstOf returns the first of several laws that is not Legal.
func firstOf(l ...api.Law) api.Law {
	for _, law := range l {
		if law != api.Legal {
			return law
		}
	}
	return api.Legal
}

// step does what the document says of Step; it changes its own copy of the state.
func step(r api.Rules, in api.Innings, e api.Event) (api.Innings, api.Law) {
	hasBegun := false
	for _, s := range in.Batters {
		hasBegun = hasBegun || s != api.Waiting
	}
	law := first(
		reason{api.LawPhase, !innings.Valid(r, in) || event.Check(e) != api.OK},
		reason{api.LawEnded, in.Ending != api.NotEnded},
		reason{api.LawPhase, e.Kind == api.TossEvent || e.Kind == api.FollowEvent || e.Kind == api.StopEvent},
		reason{api.LawPhase, !hasBegun && e.Kind != api.OpenEvent},
	)
	if law != api.Legal {
		return in, law
	}
	next, law := byKind(r, innings.Clone(in), e)
	if law != api.Legal {
		return in, law
	}
	next.Fresh = e.Kind == api.BallEvent
	if next.Ending == api.NotEnded {
		next.Ending = ending(r, next)
	}
	return next, api.Legal
}

// byKind does what the document's table says of the kinds.
func byKind(r api.Rules, in api.Innings, e api.Event) (api.Innings, api.Law) {
	law := api.LawPhase
	switch e.Kind {
	case api.OpenEvent:
		return crease.Open(in, e.Player, e.Other)
	case api.BowlEvent:
		return spell.Take(r, in, e.Player)
	case api.BallEvent:
		return ball(r, in, e.Ball)
	case api.EnterEvent:
		if !e.Yes {
			return crease.Enter(in, e.Player)
		}
		return crease.TimeOut(in, e.Player)
	case api.RetireEvent:
		return crease.Retire(in, e.Player, e.Yes)
	case api.FieldEvent:
		return field.Outside(in, e.Runs)
	case api.KeeperEvent:
		return field.Keeper(in, e.Player)
	case api.SubEvent:
		return field.Substitute(in, e.Player, e.Yes)
	case api.NewBallEvent:
		return spell.NewBall(r, in)
	case api.DeclareEvent:
		law = first(reason{api.LawSide, e.Side != in.Side}, reason{api.LawDeclare, r.Overs != 0})
		in.Ending = api.Declared
	case api.PenaltyEvent:
		law = first(reason{api.LawPenalty, e.Runs != 5})
		if e.Side == in.Side {
			in.Runs += 5
			in.Extras.Penalties += 5
		} else if in.Target > 0 {
			in.Target += 5
		}
	case api.ReviewEvent:
		law = first(reason{api.LawReview, !(in.Fresh && in.Reviews[e.Side-1] < r.Reviews)})
		if !e.Yes {
			in.Reviews[e.Side-1]++
		}
	case api.ReviseEvent:
		law = first(
			reason{api.LawRevise, r.Overs == 0},
			reason{api.LawRevise, e.Runs > 0 && !(in.Target > 0 && e.Runs > in.Runs)},
			reason{api.LawRevise, e.Overs > 0 && !(e.Overs <= r.Overs && e.Overs*r.Balls >= in.Complete*r.Balls+in.InOver)},
			reason{api.LawRevise, e.Runs == 0 && e.Overs == 0},
		)
		in.Target = max(in.Target*b2i(e.Runs == 0), e.Runs)
		in.Overs = max(in.Overs*b2i(e.Overs == 0), e.Overs)
	}
	return in, law
}

// b2i returns 1 for true and 0 for false.
func b2i(b bool) int {
	if b {
		return 1
	}
	return 0
}

// ball does what the document says of a delivery.
func ball(r api.Rules, in api.Innings, d api.Delivery) (api.Innings, api.Law) {
	law := firstOf(
		first(reason{api.LawWaiting, in.Striker == 0 || in.Other == 0}, reason{api.LawBowler, in.Bowler == 0}),
		field.Ready(r, in), delivery.Legal(d), dismissal.Possible(d, in.FreeHit), field.Named(in, d))
	if law != api.Legal {
		return in, law
	}
	c := delivery.Credit(r, d)
	in.Runs += c.Batter + c.Wides + c.NoBalls + c.Byes + c.LegByes
	x := in.Extras
	in.Extras = api.Extras{Wides: x.Wides + c.Wides, NoBalls: x.NoBalls + c.NoBalls, Byes: x.Byes + c.Byes, LegByes: x.LegByes + c.LegByes, Penalties: x.Penalties}
	in, over := spell.Ball(r, crease.Ran(in, d), c.Counts)
	if over {
		in.Striker, in.Other = in.Other, in.Striker
	}
	if d.Type == api.Fair {
		in.FreeHit = false
	}
	if d.Type == api.NoBall && r.FreeHit {
		in.FreeHit = true
	}
	return in, api.Legal
}

// number returns a number from lo to hi, and rarely another one.
func number(s *rand.Rand, lo, hi int) int {
	if s.Intn(60) == 0 {
		return []int{math.MinInt, -1, 0, hi + 1, 99, math.MaxInt}[s.Intn(6)]
	}
	return lo + s.Intn(hi-lo+1)
}

// randomDelivery returns a delivery that is often legal.
func randomDelivery(s *rand.Rand, side int) api.Delivery {
	l := delivery.All(4)
	d := l[s.Intn(len(l))]
	if s.Intn(3) == 0 {
		types := []api.Delivery{{Type: api.Fair}, {Type: api.WideBall}, {Type: api.NoBall}}
		d = types[s.Intn(3)]
		d.How = api.How(1 + s.Intn(8))
		d.Victim = number(s, 1, 2)
		if must, _, _ := dismissal.Fielders(d.How); must {
			d.Fielder = number(s, 1, side)
			d.Sub = s.Intn(8) == 0
		}
		if d.How == api.RunOut || s.Intn(4) == 0 {
			d.Runs, d.Crossed, d.Second = s.Intn(3), d.How == api.RunOut && s.Intn(2) == 0, s.Intn(side+1)*b2i(d.How == api.RunOut)
			d.Source = api.Source(b2i(d.Runs > 0 && d.Type != api.WideBall))
		}
	}
	if s.Intn(20) == 0 {
		d.Short = number(s, 0, 1)
	}
	if s.Intn(40) == 0 {
		d.Sector, d.Boundary = number(s, 0, 8), number(s, 0, 6)
	}
	return d
}

// randomEvent returns an event of a kind, mostly with numbers that fit.
func randomEvent(s *rand.Rand, k api.Kind, side int) api.Event {
	e := api.Event{Kind: k}
	yes := s.Intn(2) == 0
	switch k {
	case api.TossEvent, api.FollowEvent, api.ReviewEvent:
		e.Side, e.Yes = number(s, 1, 2), yes
	case api.DeclareEvent:
		e.Side = number(s, 1, 2)
	case api.OpenEvent:
		e.Player, e.Other = number(s, 1, side), number(s, 1, side)
	case api.BowlEvent, api.KeeperEvent:
		e.Player = number(s, 1, side)
	case api.EnterEvent, api.RetireEvent, api.SubEvent:
		e.Player, e.Yes = number(s, 1, side), yes
	case api.BallEvent:
		e.Ball = randomDelivery(s, side)
	case api.FieldEvent:
		e.Runs = number(s, 0, side)
	case api.PenaltyEvent:
		e.Side, e.Runs = number(s, 1, 2), number(s, 5, 5)
	case api.ReviseEvent:
		e.Runs, e.Overs = number(s, 0, 300)*s.Intn(2), number(s, 0, 4)*s.Intn(2)
	}
	if s.Intn(60) == 0 {
		e.Other++
	}
	return e
}

// checkStep compares Step with the document, looks for shared memory, and returns the state.
func checkStep(t *testing.T, r api.Rules, in api.Innings, e api.Event) (api.Innings, api.Law) {
	t.Helper()
	before := innings.Clone(in)
	want, wantLaw := step(r, in, e)
	after, law := innings.Step(r, in, e)
	if law != wantLaw || !innings.Same(after, want) || !innings.Same(in, before) {
		t.Fatalf("rules %+v, state %+v, event %+v: %+v, law %d, want %+v, law %d", r, before, e, after, law, want, wantLaw)
	}
	if innings.Valid(r, before) && !innings.Valid(r, after) {
		t.Fatalf("rules %+v, state %+v, event %+v: not valid: %+v", r, before, e, after)
	}
	kept := innings.Clone(after)
	scrawl(&after)
	if !innings.Same(in, before) {
		t.Fatalf("state %+v, event %+v: memory is shared", before, e)
	}
	return kept, law
}

// P14.5, P14.6 and P14.7

func TestStepFromRandomStates(t *testing.T) {
	s := rand.New(rand.NewSource(5))
	laws, legal := map[api.Law]int{}, map[api.Kind]int{}
	for range 4000 {
		for _, r := range ruleSets() {
			in := randomState(s, r)
			for n := range 24 {
				// Deliveries have the most laws: the numbers beyond the kinds stand for them, too.
				k := api.Kind(n)
				if k > api.StopEvent+1 {
					k = api.BallEvent
				}
				_, law := checkStep(t, r, in, randomEvent(s, k, r.Side))
				laws[law]++
				if law == api.Legal {
					legal[k]++
				}
			}
		}
	}
	for _, law := range []api.Law{
		api.LawPhase, api.LawSide, api.LawPlayer, api.LawCrease, api.LawOut, api.LawWaiting, api.LawBowler, api.LawTwice, api.LawQuota,
		api.LawDelivery, api.LawRuns, api.LawDismissal, api.LawVictim, api.LawFielder, api.LawField, api.LawKeeper, api.LawSubstitute,
		api.LawRetired, api.LawDeclare, api.LawNewBall, api.LawPenalty, api.LawReview, api.LawRevise, api.LawEnded,
	} {
		if laws[law] < 30 {
			t.Errorf("law %d: met %d times", law, laws[law])
		}
	}
	for k := api.OpenEvent; k <= api.ReviseEvent; k++ {
		if k != api.FollowEvent && legal[k] < 200 {
			t.Errorf("kind %d: legal %d times", k, legal[k])
		}
	}
}

// TestStepPlays plays innings from their beginning with random events, which are all valid states on the way.
func TestStepPlays(t *testing.T) {
	s := rand.New(rand.NewSource(6))
	ended := map[api.Ending]int{}
	for range 200 {
		for _, r := range ruleSets() {
			in, _ := innings.Begin(r, 1+s.Intn(2), s.Intn(2)*s.Intn(40), s.Intn(10))
			for range 400 {
				k := api.Kind(1 + s.Intn(16))
				if s.Intn(2) == 0 {
					k = api.BallEvent
				}
				if k == api.DeclareEvent && s.Intn(20) != 0 {
					k = api.EnterEvent
				}
				in, _ = checkStep(t, r, in, randomEvent(s, k, r.Side))
			}
			ended[in.Ending]++
		}
	}
	for _, e := range []api.Ending{api.AllOut, api.OversDone, api.TargetReached, api.Declared} {
		if ended[e] < 10 {
			t.Errorf("ending %d: met %d times", e, ended[e])
		}
	}
}

func TestStepFromStatesThatAreNotValid(t *testing.T) {
	s := rand.New(rand.NewSource(7))
	for _, c := range counters() {
		for _, n := range []int{math.MinInt, -1, bound + 1, math.MaxInt} {
			for k := api.Kind(0); k <= api.StopEvent+1; k++ {
				in := playing()
				*c.at(&in) = n
				want := innings.Clone(in)
				after, law := innings.Step(limited(), in, randomEvent(s, k, 4))
				if law != api.LawPhase || !reflect.DeepEqual(after, want) {
					t.Fatalf("%s %d, kind %d: %+v, law %d", c.name, n, k, after, law)
				}
			}
		}
	}
	for _, in := range []api.Innings{{}, {Ending: api.Declared}, {Striker: 5, Other: 9}} {
		after, law := innings.Step(limited(), in, api.Event{Kind: api.NewBallEvent})
		if law != api.LawPhase || !reflect.DeepEqual(after, in) {
			t.Errorf("from %+v: %+v, law %d", in, after, law)
		}
	}
	if after, law := innings.Step(api.Rules{}, playing(), api.Event{Kind: api.NewBallEvent}); law != api.LawPhase || !reflect.DeepEqual(after, playing()) {
		t.Errorf("with rules that have an error: %+v, law %d", after, law)
	}
}

// parse returns the event of a line.
func parse(t *testing.T, line string) api.Event {
	t.Helper()
	e, bad := event.Parse(line)
	if bad != api.OK {
		t.Fatalf("%q is no line", line)
	}
	return e
}

// line is a line with the law that refuses it.
type line struct {
	text string
	want api.Law
}

// play plays lines one after the other, and returns the state behind the last one.
func play(t *testing.T, r api.Rules, in api.Innings, l ...line) api.Innings {
	t.Helper()
	for _, x := range l {
		law := api.Legal
		if in, law = checkStep(t, r, in, parse(t, x.text)); law != x.want {
			t.Fatalf("%s: law %d, want %d", x.text, law, x.want)
		}
	}
	return in
}

func TestStepLaws(t *testing.T) {
	for _, x := range []line{
		{"TOSS 1 BAT", api.LawPhase}, {"FOLLOW 1 NO", api.LawPhase}, {"STOP", api.LawPhase}, {"OPEN 1 2", api.LawPhase},
		{"BOWL 11", api.LawPlayer}, {"BOWL 1", api.LawBowler}, {"BOWL 2", api.LawBowler}, {"BOWL 3", api.LawBowler}, {"BOWL 4", api.Legal},
		{"ENTER 4", api.LawCrease}, {"TIMEOUT 4", api.LawCrease}, {"TIMEOUT 5", api.LawPlayer},
		{"RETIRE 4 OUT", api.LawCrease}, {"RETIRE 3 HURT", api.Legal}, {"RETIRE 1 OUT", api.Legal},
		{"FIELD 2", api.Legal}, {"FIELD 3", api.LawField}, {"KEEPER 3", api.LawSubstitute}, {"KEEPER 2", api.LawKeeper}, {"KEEPER 4", api.Legal},
		{"SUB 3 ON", api.LawSubstitute}, {"SUB 3 OFF", api.Legal}, {"SUB 1 ON", api.Legal}, {"NEWBALL", api.Legal},
		{"DECLARE 1", api.LawSide}, {"DECLARE 2", api.LawDeclare},
		{"PENALTY 1 5", api.Legal}, {"PENALTY 2 4", api.LawPenalty}, {"PENALTY 2 6", api.LawPenalty}, {"PENALTY 1 99", api.LawPenalty},
		{"REVIEW 1 LOST", api.Legal}, {"REVIEW 2 LOST", api.LawReview}, {"REVIEW 2 KEPT", api.LawReview},
		{"REVISE 0 0", api.LawRevise}, {"REVISE 20 0", api.LawRevise}, {"REVISE 21 0", api.Legal}, {"REVISE 0 1", api.LawRevise},
		{"REVISE 0 2", api.Legal}, {"REVISE 0 3", api.Legal}, {"REVISE 0 4", api.LawRevise}, {"REVISE 20 3", api.LawRevise}, {"REVISE 21 1", api.LawRevise},
		{"BALL .", api.Legal}, {"BALL 0", api.LawDelivery}, {"BALL 2-2", api.Legal}, {"BALL ./B1", api.LawDismissal},
		{"BALL 1/R2(9)", api.LawPlayer}, {"BALL 1/R2(3)", api.LawSubstitute}, {"BALL 1/R2(3s)", api.Legal}, {"BALL 1/R2", api.LawFielder},
	} {
		play(t, limited(), playing(), x)
	}
}

func TestStepBallLawsInOrder(t *testing.T) {
	// The delivery breaks every law that a state does not; each change removes the first of those that refuse it.
	in := playing()
	in.Striker, in.Batters[2], in.Wickets = 0, api.Dismissed, 2
	in.Bowler, in.Keeper, in.Outside = 0, 0, 2
	d := api.Delivery{Type: api.Fair, Source: api.NoRuns, Runs: 1, How: api.Caught, Victim: 2, Fielder: 3}
	for _, x := range []struct {
		law    api.Law
		change func()
	}{
		{api.LawWaiting, func() { in.Striker, in.Batters[2], in.Wickets = 3, api.Batting, 1 }},
		{api.LawBowler, func() { in.Bowler = 1 }},
		{api.LawKeeper, func() { in.Keeper = 2 }},
		{api.LawField, func() { in.Outside = 1 }},
		{api.LawDelivery, func() { d.Source = api.OffBat }},
		{api.LawDismissal, func() { in.FreeHit = false }},
		{api.LawRuns, func() { d.Source, d.Runs = api.NoRuns, 0 }},
		{api.LawVictim, func() { d.Victim = 1 }},
		{api.LawSubstitute, func() { in.Subs[2] = false }},
		{api.Legal, func() {}},
	} {
		if _, law := checkStep(t, limited(), in, api.Event{Kind: api.BallEvent, Ball: d}); law != x.law {
			t.Fatalf("law %d, want %d", law, x.law)
		}
		x.change()
	}
}

func TestStepLawsOfThePhaseInOrder(t *testing.T) {
	in := playing()
	in.Ending, in.InOver = api.Declared, 4
	e := api.Event{Kind: api.StopEvent}
	if _, law := innings.Step(limited(), in, e); law != api.LawPhase {
		t.Errorf("a state that is not valid: law %d", law)
	}
	in.InOver = 3
	if _, law := innings.Step(limited(), in, api.Event{Kind: api.StopEvent, Player: 1}); law != api.LawPhase {
		t.Errorf("an event that has an error: law %d", law)
	}
	if _, law := innings.Step(limited(), in, e); law != api.LawEnded {
		t.Errorf("an innings that has ended: law %d", law)
	}
	in.Ending = api.NotEnded
	if _, law := innings.Step(limited(), in, e); law != api.LawPhase {
		t.Errorf("an event of the match: law %d", law)
	}
}

func TestStepBeforeTheInnings(t *testing.T) {
	in, _ := innings.Begin(limited(), 1, 0, 0)
	for _, text := range []string{"BOWL 1", "BALL .", "ENTER 1", "RETIRE 1 OUT", "FIELD 0", "KEEPER 1", "SUB 1 ON", "NEWBALL", "DECLARE 1", "PENALTY 1 5", "REVIEW 1 KEPT", "REVISE 0 1", "TOSS 1 BAT", "FOLLOW 1 YES", "STOP"} {
		play(t, limited(), in, line{text, api.LawPhase})
	}
	in = play(t, limited(), in, line{"OPEN 1 5", api.LawPlayer}, line{"OPEN 3 3", api.LawCrease}, line{"OPEN 3 1", api.Legal}, line{"OPEN 1 2", api.LawPhase})
	if in.Striker != 3 || in.Other != 1 {
		t.Errorf("after OPEN: %+v", in)
	}
}

func TestStepEndsWithEveryEvent(t *testing.T) {
	// An innings of which the target is reached before it has begun ends with the opening batters.
	in, _ := innings.Begin(limited(), 1, 5, 5)
	in = play(t, limited(), in, line{"OPEN 1 2", api.Legal}, line{"KEEPER 1", api.LawEnded}, line{"STOP", api.LawEnded})
	if in.Ending != api.TargetReached {
		t.Errorf("after OPEN: %+v", in)
	}
	in = playing()
	in.Runs = 25
	in = play(t, limited(), in, line{"PENALTY 2 5", api.Legal})
	if in.Ending != api.TargetReached || in.Runs != 30 || in.Extras.Penalties != 10 {
		t.Errorf("after PENALTY: %+v", in)
	}
	in = playing()
	in.Complete, in.InOver = 1, 0
	in = play(t, limited(), in, line{"REVISE 99 1", api.Legal})
	if in.Ending != api.OversDone || in.Overs != 1 || in.Target != 99 {
		t.Errorf("after REVISE: %+v", in)
	}
	in = play(t, limited(), playing(), line{"RETIRE 3 OUT", api.Legal}, line{"TIMEOUT 4", api.Legal})
	if in.Ending != api.AllOut || in.Wickets != 3 || in.Striker != 0 {
		t.Errorf("after TIMEOUT: %+v", in)
	}
}

func TestStepKeepsATargetOfNone(t *testing.T) {
	in := playing()
	in.Target = 0
	in = play(t, limited(), in, line{"PENALTY 1 5", api.Legal}, line{"REVISE 99 0", api.LawRevise}, line{"REVISE 99 3", api.LawRevise})
	if in.Target != 0 || in.Runs != 20 {
		t.Errorf("a target: %+v", in)
	}
	in = play(t, limited(), playing(), line{"PENALTY 1 5", api.Legal})
	if in.Target != 35 || in.Runs != 20 || in.Extras.Penalties != 5 {
		t.Errorf("the target of playing: %+v", in)
	}
}

func TestStepDeclares(t *testing.T) {
	in, _ := innings.Begin(open(), 2, 0, 0)
	in = play(t, open(), in, line{"OPEN 1 2", api.Legal}, line{"DECLARE 1", api.LawSide}, line{"REVISE 0 1", api.LawRevise}, line{"DECLARE 2", api.Legal}, line{"DECLARE 2", api.LawEnded})
	if in.Ending != api.Declared {
		t.Errorf("after DECLARE: %+v", in)
	}
}

func TestStepReviews(t *testing.T) {
	in := playing()
	in.Reviews = [2]int{}
	in = play(t, limited(), in, line{"REVIEW 1 KEPT", api.Legal})
	if in.Fresh || in.Reviews != [2]int{} {
		t.Errorf("after a review that is kept: %+v", in)
	}
	in = play(t, limited(), in, line{"REVIEW 1 LOST", api.LawReview}, line{"BALL .", api.Legal}, line{"REVIEW 2 LOST", api.Legal})
	if in.Reviews != [2]int{0, 1} {
		t.Errorf("after a review that is lost: %+v", in)
	}
}

func TestStepIsFresh(t *testing.T) {
	for _, x := range []struct {
		line  string
		fresh bool
	}{{"BALL w", true}, {"FIELD 1", false}, {"KEEPER 1", true}, {"SUB 4 ON", false}, {"BALL 0", true}} {
		in, _ := innings.Step(limited(), playing(), parse(t, x.line))
		if in.Fresh != x.fresh {
			t.Errorf("after %s: %v", x.line, in.Fresh)
		}
	}
}

// P14.6

func TestStepFreeHit(t *testing.T) {
	free, never := limited(), limited()
	never.FreeHit = false
	for _, x := range []struct {
		r            api.Rules
		line         string
		before, want bool
	}{
		{free, "BALL .", true, false}, {free, "BALL .", false, false},
		{free, "BALL w", true, true}, {free, "BALL w", false, false},
		{free, "BALL n.", true, true}, {free, "BALL n.", false, true},
		{never, "BALL .", true, false}, {never, "BALL w1", true, true}, {never, "BALL nF", true, true}, {never, "BALL n1", false, false},
	} {
		in := playing()
		in.FreeHit = x.before
		if in = play(t, x.r, in, line{x.line, api.Legal}); in.FreeHit != x.want {
			t.Errorf("%s, free hit %v: %v", x.line, x.before, in.FreeHit)
		}
	}
}

func TestStepEndsAnOver(t *testing.T) {
	in := playing()
	in.Overs, in.InOver = 3, 3
	for _, x := range []struct {
		line           string
		striker, other int
	}{{"BALL .", 1, 3}, {"BALL 1", 3, 1}, {"BALL 2/R1(1)", 1, 0}, {"BALL 1/R1(1)", 0, 1}, {"BALL .x/O2", 3, 0}} {
		after := play(t, limited(), in, line{x.line, api.Legal})
		if after.Striker != x.striker || after.Other != x.other || after.Complete != 2 || after.InOver != 0 || after.Bowler != 0 || after.BallAge != 7 || after.Bowled[0] != 3 {
			t.Errorf("%s: %+v", x.line, after)
		}
	}
	after := play(t, limited(), in, line{"BALL w1", api.Legal})
	if after.Striker != 1 || after.Complete != 1 || after.InOver != 3 || after.Bowler != 1 || after.Bowled[0] != 2 {
		t.Errorf("a wide: %+v", after)
	}
}

func TestStepScores(t *testing.T) {
	for _, x := range []struct {
		line                             string
		runs, wides, noBalls, byes, legs int
	}{
		{"BALL 3", 3, 0, 0, 0, 0}, {"BALL S", 6, 0, 0, 0, 0}, {"BALL 1F", 5, 0, 0, 0, 0}, {"BALL 3-1", 2, 0, 0, 0, 0},
		{"BALL w", 1, 1, 0, 0, 0}, {"BALL w2", 3, 3, 0, 0, 0}, {"BALL wF", 5, 5, 0, 0, 0},
		{"BALL n.", 2, 0, 2, 0, 0}, {"BALL n1", 3, 0, 2, 0, 0}, {"BALL nb2", 4, 0, 2, 2, 0}, {"BALL nlF", 6, 0, 2, 0, 4},
		{"BALL b1", 1, 0, 0, 1, 0}, {"BALL l2-1", 1, 0, 0, 0, 1}, {"BALL 1/R2(2)", 1, 0, 0, 0, 0},
	} {
		in := playing()
		in.Target = 0
		in = play(t, limited(), in, line{x.line, api.Legal})
		want := api.Extras{Wides: 1 + x.wides, NoBalls: 2 + x.noBalls, Byes: 3 + x.byes, LegByes: 4 + x.legs, Penalties: 5}
		if in.Runs != 20+x.runs || in.Extras != want {
			t.Errorf("%s: %d runs, %+v", x.line, in.Runs, in.Extras)
		}
	}
}

func TestAllRunsCountWithTheTarget(t *testing.T) {
	in := playing()
	in.Runs = 29
	in = play(t, limited(), in, line{"BALL S", api.Legal}, line{"BALL .", api.LawEnded})
	if in.Runs != 35 || in.Ending != api.TargetReached || !in.Fresh {
		t.Errorf("after the last ball: %+v", in)
	}
}

func TestStepBeyondTheBound(t *testing.T) {
	in := playing()
	in.Target, in.Runs = bound, bound-5
	in = play(t, limited(), in, line{"PENALTY 2 5", api.Legal})
	if in.Runs != bound || in.Ending != api.TargetReached {
		t.Errorf("at the bound: %+v", in)
	}
	in = playing()
	in.Target, in.Runs = 1, bound
	in, law := innings.Step(limited(), in, parse(t, "BALL 1"))
	if in.Runs != bound+1 || in.Ending != api.NotEnded || law != api.Legal {
		t.Errorf("beyond the bound: %+v, law %d", in, law)
	}
}

// The example of the document.

func TestExample(t *testing.T) {
	r := api.Rules{Name: "EXAMPLE", Side: 3, Innings: 1, Overs: 2, Balls: 4, Wide: 1, NoBall: 1, FreeHit: true}
	in, _ := innings.Begin(r, 1, 0, 0)
	in = play(t, r, in, line{"OPEN 1 2", api.Legal}, line{"KEEPER 3", api.Legal}, line{"BOWL 1", api.Legal}, line{"BALL 1", api.Legal})
	if in.Runs != 1 || in.InOver != 1 || in.Striker != 2 {
		t.Errorf("after a run: %+v", in)
	}
	in = play(t, r, in, line{"BALL w", api.Legal})
	if in.Runs != 2 || in.InOver != 1 {
		t.Errorf("after a wide: %+v", in)
	}
	in = play(t, r, in, line{"BALL ./B1", api.Legal})
	if in.Wickets != 1 || in.Striker != 0 {
		t.Errorf("after a wicket: %+v", in)
	}
	in = play(t, r, in, line{"BALL .", api.LawWaiting}, line{"ENTER 3", api.Legal})
	if in.Striker != 3 {
		t.Errorf("after a new batter: %+v", in)
	}
	in = play(t, r, in, line{"BALL ./C1(2)", api.Legal})
	if in.Ending != api.AllOut || in.Runs != 2 || innings.Balls(r, in) != 3 {
		t.Errorf("at the end: %+v", in)
	}
}
