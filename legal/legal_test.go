package legal_test

import (
	"cmp"
	"math"
	"math/rand"
	"reflect"
	"slices"
	"testing"

	"scorebook/api"
	"scorebook/delivery"
	"scorebook/dismissal"
	"scorebook/event"
	"scorebook/legal"
	"scorebook/match"
	"scorebook/rules"
)

// limited are rules of a match of one innings a side.
func limited() api.Rules {
	return api.Rules{Name: "LIMITED", Side: 3, Innings: 1, Overs: 3, Balls: 4, Quota: 1, Wide: 1, NoBall: 2, FreeHit: true, NewBall: 1, Reviews: 1, Outside: 1, Power: []api.Phase{{From: 1, To: 1, Outside: 0}}}
}

// long are rules of a match of two innings a side, without a limit of overs and with the follow-on.
func long() api.Rules {
	return api.Rules{Name: "LONG", Side: 2, Innings: 2, Balls: 4, Wide: 2, NoBall: 1, NewBall: 1, FollowOn: 2, Reviews: 1}
}

// ruleSets returns rules of all sorts, without an error.
func ruleSets(t *testing.T) []api.Rules {
	t.Helper()
	l := []api.Rules{limited(), long()}
	for _, name := range []string{"TEST", "TWENTY"} {
		r, e := rules.Standard(name)
		if e != api.OK {
			t.Fatal(e)
		}
		l = append(l, r)
	}
	return l
}

// checked returns all events without an error, but deliveries and revisions, in the order of the document.
func checked() []api.Event {
	var l []api.Event
	for k := api.TossEvent; k <= api.StopEvent; k++ {
		if k == api.BallEvent || k == api.ReviseEvent {
			continue
		}
		for side := range 4 {
			for player := range 13 {
				for other := range 13 {
					for yes := range 2 {
						for runs := range 101 {
							e := api.Event{Kind: k, Side: side, Player: player, Other: other, Yes: yes == 1, Runs: runs}
							if event.Check(e) == api.OK {
								l = append(l, e)
							}
						}
					}
				}
			}
		}
	}
	return l
}

// law returns the law with which match.Step refuses an event.
func law(m api.Match, e api.Event) api.Law {
	_, l := match.Step(m, e)
	return l
}

// accepted returns the events that match.Step accepts.
func accepted(m api.Match, l []api.Event) []api.Event {
	var out []api.Event
	for _, e := range l {
		if law(m, e) == api.Legal {
			out = append(out, e)
		}
	}
	return out
}

// play plays matches with random legal events, and calls f for the states on the way.
func play(t *testing.T, seed int64, matches, steps int, f func(s *rand.Rand, m api.Match)) {
	t.Helper()
	s := rand.New(rand.NewSource(seed))
	for range matches {
		for _, r := range ruleSets(t) {
			m, _ := match.New(r)
			for range steps {
				f(s, m)
				if m.Stage == api.Finished {
					break
				}
				m, _ = match.Step(m, choose(s, m))
			}
		}
	}
}

// choose returns a legal event, often a delivery, rarely the end of a match or of an innings.
func choose(s *rand.Rand, m api.Match) api.Event {
	if s.Intn(8) > 0 {
		l := legal.Deliveries(m, 1)
		if s.Intn(10) > 0 {
			l = slices.DeleteFunc(l, func(d api.Delivery) bool { return d.How != api.NotOut })
		}
		if len(l) > 0 {
			return api.Event{Kind: api.BallEvent, Ball: l[s.Intn(len(l))]}
		}
	}
	l := legal.Next(m)
	// Each kind is as likely as the others.
	kinds := slices.Compact(kindsOf(l))
	k := kinds[s.Intn(len(kinds))]
	if (k == api.StopEvent || k == api.DeclareEvent) && s.Intn(16) > 0 {
		k = kinds[0]
	}
	l = slices.DeleteFunc(l, func(e api.Event) bool { return e.Kind != k })
	return l[s.Intn(len(l))]
}

// kindsOf returns the kinds of events.
func kindsOf(l []api.Event) []api.Kind {
	var kinds []api.Kind
	for _, e := range l {
		kinds = append(kinds, e.Kind)
	}
	return kinds
}

// P16.2 and P16.6

func TestNext(t *testing.T) {
	all := checked()
	kinds, stages := map[api.Kind]int{}, map[api.Stage]int{}
	play(t, 1, 4, 100, func(s *rand.Rand, m api.Match) {
		before := match.Clone(m)
		l := legal.Next(m)
		if want := accepted(m, all); !slices.Equal(l, want) {
			t.Fatalf("Next of %+v = %+v, want %+v", m, l, want)
		}
		if !match.Same(m, before) {
			t.Fatalf("Next changed %+v to %+v", before, m)
		}
		if (len(l) == 0) != (m.Stage == api.Finished) {
			t.Fatalf("Next of %+v has %d events", m, len(l))
		}
		stages[m.Stage]++
		for _, e := range l {
			kinds[e.Kind]++
		}
	})
	for k := api.TossEvent; k <= api.StopEvent; k++ {
		none := k == api.BallEvent || k == api.ReviseEvent
		if none != (kinds[k] == 0) {
			t.Errorf("kind %d: met %d times", k, kinds[k])
		}
	}
	for stage := api.BeforeToss; stage <= api.Finished; stage++ {
		if stages[stage] == 0 {
			t.Errorf("stage %d: not met", stage)
		}
	}
}

func TestNextIsAscending(t *testing.T) {
	yes := func(e api.Event) int {
		if e.Yes {
			return 1
		}
		return 0
	}
	play(t, 2, 3, 80, func(s *rand.Rand, m api.Match) {
		l := legal.Next(m)
		for i, b := range l[min(1, len(l)):] {
			a := l[i]
			if cmp.Or(cmp.Compare(a.Kind, b.Kind), cmp.Compare(a.Side, b.Side), cmp.Compare(a.Player, b.Player), cmp.Compare(a.Other, b.Other), cmp.Compare(yes(a), yes(b)), cmp.Compare(a.Runs, b.Runs)) >= 0 {
				t.Fatalf("%+v stands before %+v", a, b)
			}
		}
	})
}

// begin returns a match in play, after some legal lines.
func begin(t *testing.T, r api.Rules, lines ...string) api.Match {
	t.Helper()
	m, bad := match.Started(r, 1)
	if bad != api.OK {
		t.Fatal(bad)
	}
	for _, text := range lines {
		e, bad := event.Parse(text)
		if bad != api.OK {
			t.Fatalf("%q is no line", text)
		}
		law := api.Legal
		if m, law = match.Step(m, e); law != api.Legal {
			t.Fatalf("%s: law %d", text, law)
		}
	}
	return m
}

// texts returns the lines of events.
func texts(l []api.Event) []string {
	var out []string
	for _, e := range l {
		s, _ := event.Text(e)
		out = append(out, s)
	}
	return out
}

func TestNextTells(t *testing.T) {
	r := long()
	toss, _ := match.New(r)
	choice := begin(t, r, "OPEN 1 2", "KEEPER 2", "BOWL 1", "BALL F", "BALL ./B1", "OPEN 1 2", "KEEPER 2", "BOWL 1", "BALL ./B1")
	over := begin(t, limited(), "OPEN 1 2", "KEEPER 3", "BOWL 1", "BALL .", "BALL .", "BALL .", "BALL .")
	waiting := begin(t, limited(), "OPEN 1 2", "KEEPER 3", "BOWL 1", "BALL ./B1")
	for _, x := range []struct {
		name string
		m    api.Match
		want []string
	}{
		{"before the toss", toss, []string{"TOSS 1 FIELD", "TOSS 1 BAT", "TOSS 2 FIELD", "TOSS 2 BAT", "STOP"}},
		{"before an innings", begin(t, r), []string{"OPEN 1 2", "OPEN 2 1", "STOP"}},
		{"a choice", choice, []string{"FOLLOW 1 NO", "FOLLOW 1 YES", "STOP"}},
		{"in play", begin(t, r, "OPEN 1 2"), []string{
			"BOWL 1", "BOWL 2", "RETIRE 1 OUT", "RETIRE 2 OUT", "FIELD 0", "KEEPER 1", "KEEPER 2", "SUB 1 ON", "SUB 2 ON", "DECLARE 1", "PENALTY 1 5", "PENALTY 2 5", "STOP",
		}},
		{"after an over", over, []string{
			"BOWL 2", "RETIRE 1 OUT", "RETIRE 1 HURT", "RETIRE 2 OUT", "RETIRE 2 HURT", "FIELD 0", "FIELD 1", "KEEPER 1", "KEEPER 2", "SUB 1 ON", "SUB 2 ON", "SUB 3 ON",
			"NEWBALL", "PENALTY 1 5", "PENALTY 2 5", "REVIEW 1 LOST", "REVIEW 1 KEPT", "REVIEW 2 LOST", "REVIEW 2 KEPT", "STOP",
		}},
		{"after a wicket", waiting, []string{
			"BOWL 2", "ENTER 3", "TIMEOUT 3", "FIELD 0", "FIELD 1", "KEEPER 2", "SUB 1 ON", "SUB 2 ON", "SUB 3 ON",
			"PENALTY 1 5", "PENALTY 2 5", "REVIEW 1 LOST", "REVIEW 1 KEPT", "REVIEW 2 LOST", "REVIEW 2 KEPT", "STOP",
		}},
		{"at the end", begin(t, r, "STOP"), nil},
		{"not valid", api.Match{}, nil},
		{"not valid in play", api.Match{Rules: r, Stage: api.InPlay, First: 1}, nil},
	} {
		if l := texts(legal.Next(x.m)); !slices.Equal(l, x.want) {
			t.Errorf("%s: %q, want %q", x.name, l, x.want)
		}
	}
}

// P16.1

func TestWhy(t *testing.T) {
	s := rand.New(rand.NewSource(3))
	seen := map[api.Law]int{}
	play(t, 4, 6, 100, func(_ *rand.Rand, m api.Match) {
		if s.Intn(10) == 0 {
			m.Penalty[0] = -1
		}
		for range 40 {
			e := api.Event{Kind: api.Kind(s.Intn(18)), Side: s.Intn(4), Player: s.Intn(13), Other: s.Intn(13), Yes: s.Intn(2) == 0, Runs: s.Intn(7), Overs: s.Intn(4)}
			if s.Intn(2) == 0 {
				l := delivery.All(2)
				e = api.Event{Kind: api.BallEvent, Ball: l[s.Intn(len(l))]}
				e.Ball.How, e.Ball.Victim, e.Ball.Fielder = api.How(s.Intn(11)), s.Intn(3), s.Intn(12)
			}
			before := match.Clone(m)
			got := legal.Why(m, e)
			if got != law(m, e) || !match.Same(m, before) {
				t.Fatalf("Why of %+v in %+v = %d", e, m, got)
			}
			seen[got]++
		}
	})
	for _, l := range []api.Law{api.Legal, api.LawPhase, api.LawWaiting, api.LawBowler, api.LawKeeper, api.LawDelivery, api.LawRuns, api.LawDismissal, api.LawVictim, api.LawFielder} {
		if seen[l] == 0 {
			t.Errorf("law %d: not met", l)
		}
	}
}

func TestWhyTells(t *testing.T) {
	m := begin(t, limited(), "OPEN 1 2", "KEEPER 3", "BOWL 1")
	for _, x := range []struct {
		line string
		want api.Law
	}{
		{"BALL .", api.Legal}, {"BOWL 1", api.LawBowler}, {"TOSS 1 BAT", api.LawPhase}, {"ENTER 3", api.LawCrease}, {"KEEPER 5", api.LawPlayer},
		{"DECLARE 1", api.LawDeclare}, {"DECLARE 2", api.LawSide}, {"REVISE 0 3", api.Legal}, {"PENALTY 1 6", api.LawPenalty}, {"STOP", api.Legal},
	} {
		e, _ := event.Parse(x.line)
		if got := legal.Why(m, e); got != x.want {
			t.Errorf("%s: %d, want %d", x.line, got, x.want)
		}
	}
	if l := legal.Why(m, api.Event{}); l != api.LawPhase {
		t.Errorf("no event: %d", l)
	}
	if l := legal.Why(begin(t, limited(), "STOP"), api.Event{Kind: api.StopEvent}); l != api.LawEnded {
		t.Errorf("at the end: %d", l)
	}
	if l := legal.Why(api.Match{}, api.Event{Kind: api.StopEvent}); l != api.LawPhase {
		t.Errorf("in no state: %d", l)
	}
}

// P16.3

// product calls f for all deliveries of the sort that Deliveries returns, in the order of the document.
func product(runs int, f func(d api.Delivery)) {
	for _, kind := range []api.Type{api.Fair, api.WideBall, api.NoBall} {
		for source := api.NoRuns; source <= api.LegByes; source++ {
			for n := 0; n <= runs; n++ {
				for _, boundary := range []int{0, 4, 6} {
					for crossed := range 2 {
						for how := range api.RetiredOut + 1 {
							for victim := range 3 {
								for fielder := range api.MaxSide + 1 {
									f(api.Delivery{Type: kind, Source: source, Runs: n, Boundary: boundary, Crossed: crossed == 1, How: how, Victim: victim, Fielder: fielder})
								}
							}
						}
					}
				}
			}
		}
	}
}

// inPlay returns states in which deliveries are legal: ordinary ones, with a free hit, with substitutes, and with a side of 11.
func inPlay(t *testing.T) []api.Match {
	t.Helper()
	full, _ := rules.Standard("TEST")
	return []api.Match{
		begin(t, limited(), "OPEN 1 2", "KEEPER 3", "BOWL 1"),
		begin(t, limited(), "OPEN 1 2", "KEEPER 3", "BOWL 1", "BALL n1"),
		begin(t, limited(), "OPEN 1 2", "KEEPER 2", "SUB 3 ON", "BOWL 1"),
		begin(t, long(), "OPEN 1 2", "KEEPER 2", "BOWL 1"),
		begin(t, full, "OPEN 5 7", "KEEPER 11", "BOWL 4", "SUB 2 ON"),
	}
}

func TestDeliveries(t *testing.T) {
	for i, m := range inPlay(t) {
		before := match.Clone(m)
		runs := 2
		if i == 0 {
			runs = api.MaxRun
		}
		var want []api.Delivery
		product(runs, func(d api.Delivery) {
			if law(m, api.Event{Kind: api.BallEvent, Ball: d}) == api.Legal {
				want = append(want, d)
			}
		})
		l := legal.Deliveries(m, runs)
		if len(l) == 0 || !slices.Equal(l, want) || !match.Same(m, before) {
			t.Errorf("state %d: %d deliveries, want %d", i, len(l), len(want))
		}
	}
}

func TestDeliveriesOnTheWay(t *testing.T) {
	// These are all that a match may accept: what it says of deliveries by themselves is told in layers 9 and 10.
	var possible []api.Delivery
	product(1, func(d api.Delivery) {
		if delivery.Legal(d) == api.Legal && dismissal.Possible(d, false) == api.Legal {
			possible = append(possible, d)
		}
	})
	seen := 0
	play(t, 5, 3, 60, func(s *rand.Rand, m api.Match) {
		runs := s.Intn(3) - 1
		var want []api.Delivery
		for _, d := range possible {
			if d.Runs <= runs && law(m, api.Event{Kind: api.BallEvent, Ball: d}) == api.Legal {
				want = append(want, d)
			}
		}
		l := legal.Deliveries(m, runs)
		if !slices.Equal(l, want) {
			t.Fatalf("Deliveries of %+v up to %d runs: %d, want %d", m, runs, len(l), len(want))
		}
		seen += len(l)
	})
	if seen == 0 {
		t.Error("no delivery was legal")
	}
}

func TestDeliveriesTells(t *testing.T) {
	m := inPlay(t)[0]
	if l := legal.Deliveries(m, 0); l[0] != (api.Delivery{Type: api.Fair}) || l[1] != (api.Delivery{Type: api.Fair, How: api.Bowled, Victim: 1}) {
		t.Errorf("the first deliveries are %+v", l[:2])
	}
	for _, runs := range []int{math.MinInt, -2, -1} {
		if l := legal.Deliveries(m, runs); len(l) != 0 {
			t.Errorf("up to %d runs: %d deliveries", runs, len(l))
		}
	}
	most := legal.Deliveries(m, api.MaxRun)
	for _, runs := range []int{api.MaxRun + 1, 1000, math.MaxInt} {
		if l := legal.Deliveries(m, runs); !slices.Equal(l, most) {
			t.Errorf("up to %d runs: %d deliveries, not %d", runs, len(l), len(most))
		}
	}
	r := limited()
	toss, _ := match.New(r)
	for name, m := range map[string]api.Match{
		"no state":              {},
		"before the toss":       toss,
		"before an innings":     begin(t, r),
		"at the end":            begin(t, r, "STOP"),
		"without a bowler":      begin(t, r, "OPEN 1 2", "KEEPER 3"),
		"without a keeper":      begin(t, r, "OPEN 1 2", "BOWL 1"),
		"without a batter":      begin(t, r, "OPEN 1 2", "KEEPER 3", "BOWL 1", "BALL ./B1"),
		"with too many outside": begin(t, r, "OPEN 1 2", "KEEPER 3", "BOWL 1", "FIELD 1"),
	} {
		if l := legal.Deliveries(m, api.MaxRun); len(l) != 0 || legal.Accepts(m, api.BallEvent) {
			t.Errorf("%s: %d deliveries", name, len(l))
		}
	}
}

// P16.4

// accepts does what the document says of Accepts; next are the events of Next.
func accepts(m api.Match, k api.Kind, next []api.Event) bool {
	switch {
	case k == api.BallEvent:
		return len(legal.Deliveries(m, 0)) > 0
	case k == api.ReviseEvent && m.Stage == api.InPlay && len(m.Innings) > 0:
		in := m.Innings[len(m.Innings)-1]
		return law(m, api.Event{Kind: k, Overs: in.Overs}) == api.Legal || law(m, api.Event{Kind: k, Runs: in.Runs + 1}) == api.Legal
	}
	return slices.ContainsFunc(next, func(e api.Event) bool { return e.Kind == k })
}

func TestAccepts(t *testing.T) {
	yes, no := map[api.Kind]int{}, map[api.Kind]int{}
	play(t, 6, 4, 100, func(_ *rand.Rand, m api.Match) {
		next := legal.Next(m)
		before := match.Clone(m)
		for k := range api.StopEvent + 2 {
			got := legal.Accepts(m, k)
			if got != accepts(m, k, next) || !match.Same(m, before) {
				t.Fatalf("Accepts of %d in %+v is %v", k, m, got)
			}
			if got {
				yes[k]++
			} else {
				no[k]++
			}
		}
	})
	for k := api.TossEvent; k <= api.StopEvent; k++ {
		if yes[k] == 0 || no[k] == 0 {
			t.Errorf("kind %d: accepted %d times, not accepted %d times", k, yes[k], no[k])
		}
	}
	for _, k := range []api.Kind{0, 17, 255} {
		for _, m := range inPlay(t) {
			if legal.Accepts(m, k) {
				t.Errorf("kind %d is accepted", k)
			}
		}
	}
}

func TestAcceptsRevisions(t *testing.T) {
	one := begin(t, limited(), "OPEN 1 2")
	chase := begin(t, limited(), "OPEN 1 2", "KEEPER 3", "BOWL 1", "BALL F", "BALL ./B1", "ENTER 3", "BALL ./B1", "OPEN 1 2")
	// The overs of the innings are fewer than what is bowled, so only the target may be revised.
	late := match.Clone(chase)
	late.Innings[1].Complete = 4
	lateOne := match.Clone(one)
	lateOne.Innings[0].Complete = 4
	// There is no line for a target above 100,000.
	high := match.Clone(late)
	high.Innings[1].Runs, high.Innings[1].Target = 99_999, 200_000
	higher := match.Clone(high)
	higher.Innings[1].Runs = 100_000
	for _, x := range []struct {
		name string
		m    api.Match
		want bool
	}{
		{"no state", api.Match{}, false},
		{"play without an innings", api.Match{Rules: limited(), Stage: api.InPlay, First: 1}, false},
		{"before an innings", begin(t, limited()), false},
		{"between the innings", begin(t, limited(), "OPEN 1 2", "KEEPER 3", "BOWL 1", "BALL ./B1", "ENTER 3", "BALL ./B1"), false},
		{"at the end", begin(t, limited(), "STOP"), false},
		{"the first innings", one, true},
		{"the last innings", chase, true},
		{"the last innings after its overs", late, true},
		{"the first innings after its overs", lateOne, false},
		{"a target of 100000", high, true},
		{"a target above 100000", higher, false},
		{"without a limit", begin(t, long(), "OPEN 1 2"), false},
	} {
		if got := legal.Accepts(x.m, api.ReviseEvent); got != x.want {
			t.Errorf("%s: %v", x.name, got)
		}
	}
}

// P16.5

func TestName(t *testing.T) {
	for l, want := range map[api.Law]string{
		api.Legal: "LEGAL", api.LawPhase: "PHASE", api.LawSide: "SIDE", api.LawPlayer: "PLAYER", api.LawCrease: "CREASE", api.LawOut: "OUT",
		api.LawWaiting: "WAITING", api.LawBowler: "BOWLER", api.LawTwice: "TWICE", api.LawQuota: "QUOTA", api.LawOver: "OVER",
		api.LawDelivery: "DELIVERY", api.LawRuns: "RUNS", api.LawDismissal: "DISMISSAL", api.LawVictim: "VICTIM", api.LawFielder: "FIELDER",
		api.LawField: "FIELD", api.LawKeeper: "KEEPER", api.LawSubstitute: "SUBSTITUTE", api.LawRetired: "RETIRED", api.LawDeclare: "DECLARE",
		api.LawFollowOn: "FOLLOWON", api.LawNewBall: "NEWBALL", api.LawPenalty: "PENALTY", api.LawReview: "REVIEW", api.LawRevise: "REVISE",
		api.LawEnded: "ENDED", -1: "", 27: "", math.MinInt: "", math.MaxInt: "",
	} {
		if got := legal.Name(l); got != want {
			t.Errorf("Name(%d) = %q, want %q", l, got, want)
		}
	}
}

// Results are new memory.

func TestResultsAreNew(t *testing.T) {
	m := inPlay(t)[0]
	next, balls := legal.Next(m), legal.Deliveries(m, 2)
	for range 2 {
		a, b := legal.Next(m), legal.Deliveries(m, 2)
		if !reflect.DeepEqual(a, next) || !reflect.DeepEqual(b, balls) {
			t.Fatal("a second call gives something else")
		}
		clear(a[:cap(a)])
		clear(b[:cap(b)])
	}
}
