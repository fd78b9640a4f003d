package tally_test

import (
	"math"
	"math/rand"
	"reflect"
	"slices"
	"testing"

	"scorebook/api"
	"scorebook/delivery"
	"scorebook/log"
	"scorebook/match"
	"scorebook/samples"
	"scorebook/tally"
)

// forEachLog calls f with random logs of accepted events.
func forEachLog(seed int64, f func(r api.Rules, l []api.Event)) {
	s := rand.New(rand.NewSource(seed))
	for range 150 {
		for _, r := range []api.Rules{samples.Limited(), samples.Long()} {
			tries := s.Intn(500)
			if s.Intn(10) == 0 {
				tries = s.Intn(4)
			}
			f(r, samples.Play(s.Intn, r, tries))
		}
	}
}

// randomEvents returns events of any kind with any sides, which need not be a log.
func randomEvents(s *rand.Rand) []api.Event {
	kinds := []api.Kind{0, api.TossEvent, api.OpenEvent, api.OpenEvent, api.OpenEvent, api.BallEvent, api.FollowEvent, api.PenaltyEvent, api.StopEvent, 77}
	sides := []int{1, 1, 2, 2, 0, 3, -1, math.MaxInt, math.MinInt}
	var l []api.Event
	for range s.Intn(14) {
		l = append(l, api.Event{Kind: kinds[s.Intn(len(kinds))], Side: sides[s.Intn(len(sides))], Yes: s.Intn(3) == 0})
	}
	return l
}

// count counts the names of what holds.
func count(met map[string]int, holds map[string]bool) {
	for name, ok := range holds {
		if ok {
			met[name]++
		}
	}
}

func TestExample(t *testing.T) {
	r, l := samples.Example()
	if s := tally.Splits(l); !slices.Equal(s, [][2]int{{1, 6}, {6, 11}}) {
		t.Errorf("Splits: %v", s)
	}
	if s := tally.Sides(l); !slices.Equal(s, []int{1, 2}) {
		t.Errorf("Sides: %v", s)
	}
	want := []api.Score{{Side: 1, Runs: 1, Wickets: 1, Balls: 2}, {Side: 2, Runs: 5, Balls: 1, Extras: api.Extras{Wides: 1}}}
	if s, e := tally.Totals(r, l); e != api.OK || !slices.Equal(s, want) {
		t.Errorf("Totals: %+v, %d", s, e)
	}
	if c, e := tally.Parties(r, l, 1); e != api.OK || c != (api.Credit{Batter: 4, Wides: 1, Bowler: 5}) {
		t.Errorf("Parties: %+v, %d", c, e)
	}
}

// P19.1

// openings returns the indexes of the OpenEvents of a list of events.
func openings(l []api.Event) []int {
	var at []int
	for i := range l {
		if l[i].Kind == api.OpenEvent {
			at = append(at, i)
		}
	}
	return at
}

func TestSplits(t *testing.T) {
	s := rand.New(rand.NewSource(1))
	for range 5000 {
		l := randomEvents(s)
		var want [][2]int
		ends := append(openings(l), len(l))
		for k := 0; k+1 < len(ends); k++ {
			want = append(want, [2]int{ends[k], ends[k+1]})
		}
		if got := tally.Splits(l); !slices.Equal(got, want) {
			t.Fatalf("%+v: %v, want %v", l, got, want)
		}
	}
}

func TestSplitsTells(t *testing.T) {
	toss, open, ball := api.Event{Kind: api.TossEvent}, api.Event{Kind: api.OpenEvent}, api.Event{Kind: api.BallEvent}
	for _, x := range []struct {
		l    []api.Event
		want [][2]int
	}{
		{nil, nil},
		{[]api.Event{}, nil},
		{[]api.Event{toss, ball, ball}, nil},
		{[]api.Event{open}, [][2]int{{0, 1}}},
		{[]api.Event{ball, open}, [][2]int{{1, 2}}},
		{[]api.Event{toss, open, ball, ball}, [][2]int{{1, 4}}},
		{[]api.Event{open, open, open}, [][2]int{{0, 1}, {1, 2}, {2, 3}}},
		{[]api.Event{ball, open, ball, open, toss, ball}, [][2]int{{1, 3}, {3, 6}}},
	} {
		if got := tally.Splits(x.l); !slices.Equal(got, x.want) {
			t.Errorf("%+v: %v, want %v", x.l, got, x.want)
		}
	}
	many := make([]api.Event, api.MaxEvents+5)
	many[api.MaxEvents+1].Kind = api.OpenEvent
	if got := tally.Splits(many); !slices.Equal(got, [][2]int{{api.MaxEvents + 1, api.MaxEvents + 5}}) {
		t.Errorf("more events than a log may have: %v", got)
	}
}

// P19.2

// sides does what the document says of Sides.
func sides(l []api.Event) []int {
	f := 1
	if i := slices.IndexFunc(l, func(e api.Event) bool { return e.Kind == api.TossEvent }); i >= 0 {
		f = l[i].Side
		if !l[i].Yes {
			f = 3 - f
		}
	}
	order := []int{f, 3 - f, f, 3 - f}
	if slices.ContainsFunc(l, func(e api.Event) bool { return e.Kind == api.FollowEvent && e.Yes }) {
		order = []int{f, 3 - f, 3 - f, f}
	}
	n := len(openings(l))
	for len(order) < n {
		order = append(order, f, 3-f)
	}
	return order[:n]
}

func TestSides(t *testing.T) {
	s, met := rand.New(rand.NewSource(2)), map[int]int{}
	for range 5000 {
		l := randomEvents(s)
		want := sides(l)
		if got := tally.Sides(l); !slices.Equal(got, want) {
			t.Fatalf("%+v: %v, want %v", l, got, want)
		}
		met[len(want)]++
	}
	if met[0] == 0 || met[4] < 100 || met[5] < 50 || met[6] == 0 {
		t.Errorf("met: %v", met)
	}
}

func TestSidesTells(t *testing.T) {
	open := api.Event{Kind: api.OpenEvent}
	toss := func(side int, yes bool) api.Event { return api.Event{Kind: api.TossEvent, Side: side, Yes: yes} }
	follow := func(yes bool) api.Event { return api.Event{Kind: api.FollowEvent, Side: 1, Yes: yes} }
	for _, x := range []struct {
		name string
		l    []api.Event
		want []int
	}{
		{"nothing", nil, nil},
		{"no innings", []api.Event{toss(2, true), follow(true)}, nil},
		{"no toss", []api.Event{open, open}, []int{1, 2}},
		{"bats", []api.Event{toss(2, true), open, open, open}, []int{2, 1, 2}},
		{"fields", []api.Event{toss(2, false), open, open, open}, []int{1, 2, 1}},
		{"the toss of another event", []api.Event{{Kind: api.PenaltyEvent, Side: 2, Yes: true}, open, open}, []int{1, 2}},
		{"the first toss counts", []api.Event{toss(2, true), toss(1, true), open, open}, []int{2, 1}},
		{"a late toss", []api.Event{open, toss(1, false), open}, []int{2, 1}},
		{"no follow-on", []api.Event{open, open, follow(false), open, open, open}, []int{1, 2, 1, 2, 1}},
		{"a follow-on", []api.Event{open, open, follow(true), open, open, open, open, open}, []int{1, 2, 2, 1, 1, 2, 1}},
		{"a follow-on after one that was not enforced", []api.Event{follow(false), open, open, open, open, follow(true)}, []int{1, 2, 2, 1}},
		{"a follow-on and one that was not enforced", []api.Event{follow(true), open, open, open, open, follow(false)}, []int{1, 2, 2, 1}},
		{"a side that there is not", []api.Event{toss(9, true), open, open}, []int{9, -6}},
		{"a side that wraps", []api.Event{toss(math.MinInt, false), open, open}, []int{math.MinInt + 3, math.MinInt}},
	} {
		if got := tally.Sides(x.l); !slices.Equal(got, x.want) {
			t.Errorf("%s: %v, want %v", x.name, got, x.want)
		}
	}
}

// P19.3

// dueTo does what the document says of the innings to which penalty runs of a side are due that come in an innings.
func dueTo(sides []int, k, side int) (int, string) {
	if sides[k] == side {
		return k, "the innings itself"
	}
	for i := k - 1; i >= 0; i-- {
		if sides[i] == side {
			return i, "an innings before"
		}
	}
	for i := k + 1; i < len(sides); i++ {
		if sides[i] == side {
			return i, "an innings after"
		}
	}
	return -1, "no innings"
}

// totals does what the document says of Totals, for an accepted log.
func totals(r api.Rules, l []api.Event, met map[string]int) []api.Score {
	batting, open := sides(l), openings(l)
	l = append(slices.Clone(l), api.Event{Kind: api.OpenEvent})
	out := make([]api.Score, len(open))
	for k, i := range open {
		out[k].Side = batting[k]
		for i++; l[i].Kind != api.OpenEvent; i++ {
			e, s := l[i], &out[k]
			switch c := delivery.Credit(r, e.Ball); {
			case e.Kind == api.BallEvent:
				s.Runs += delivery.Total(c)
				s.Extras.Wides += c.Wides
				s.Extras.NoBalls += c.NoBalls
				s.Extras.Byes += c.Byes
				s.Extras.LegByes += c.LegByes
				if c.Counts {
					s.Balls++
				}
				if e.Ball.How != api.NotOut {
					s.Wickets++
				}
			case e.Kind == api.EnterEvent && e.Yes, e.Kind == api.RetireEvent && !e.Yes:
				s.Wickets++
				met["a wicket between balls"]++
			case e.Kind == api.PenaltyEvent:
				to, where := dueTo(batting, k, e.Side)
				met[where]++
				if to >= 0 {
					out[to].Runs += 5
					out[to].Extras.Penalties += 5
				}
			}
		}
	}
	return out
}

func TestTotals(t *testing.T) {
	met := map[string]int{}
	forEachLog(3, func(r api.Rules, l []api.Event) {
		want := totals(r, l, met)
		got, e := tally.Totals(r, l)
		if e != api.OK || !slices.Equal(got, want) {
			t.Fatalf("%s, %+v: %+v, %d, want %+v", r.Name, l, got, e, want)
		}
		for _, s := range want {
			x := s.Extras
			count(met, map[string]bool{"wides": x.Wides > 0, "no-balls": x.NoBalls > 0, "byes": x.Byes > 0, "leg byes": x.LegByes > 0, "side 1": s.Side == 1, "side 2": s.Side == 2})
		}
		count(met, map[string]bool{"three innings": len(want) == 3, "four innings": len(want) == 4, "no score": len(want) == 0})
		if len(want) > 2 && want[2].Side == want[1].Side {
			met["a follow-on"]++
		}
	})
	if len(met) != 15 {
		t.Errorf("met: %v", met)
	}
}

func TestTotalsTells(t *testing.T) {
	example, _ := samples.Example()
	plain := samples.Long()
	plain.FollowOn = 0
	for _, x := range []struct {
		name string
		r    api.Rules
		l    []api.Event
		want []api.Score
	}{
		{"nothing", example, samples.Log(""), nil},
		{"a toss", example, samples.Log("TOSS 2 BAT\n"), nil},
		{"openers", example, samples.Log("TOSS 2 BAT\nOPEN 1 2\n"), []api.Score{{Side: 2}}},
		{"a penalty of the batting side", example, samples.Log("TOSS 2 BAT\nOPEN 1 2\nPENALTY 2 5\n"), []api.Score{{Side: 2, Runs: 5, Extras: api.Extras{Penalties: 5}}}},
		{"a penalty that waits", example, samples.Log("TOSS 2 BAT\nOPEN 1 2\nPENALTY 1 5\nPENALTY 2 5\nPENALTY 1 5\n"), []api.Score{{Side: 2, Runs: 5, Extras: api.Extras{Penalties: 5}}}},
		{"a penalty that waited", example, samples.Log("TOSS 2 BAT\nOPEN 1 2\nPENALTY 1 5\nKEEPER 1\nBOWL 2\nBALL ./B1\nOPEN 1 2\n"),
			[]api.Score{{Side: 2, Wickets: 1, Balls: 1}, {Side: 1, Runs: 5, Extras: api.Extras{Penalties: 5}}}},
		{"the latest innings of the other side", plain, samples.Log("TOSS 1 BAT\nOPEN 1 2\nPENALTY 1 5\nPENALTY 1 5\nDECLARE 1\nOPEN 1 2\nDECLARE 2\nOPEN 1 2\nPENALTY 2 5\nDECLARE 1\nOPEN 1 2\nPENALTY 1 5\nPENALTY 2 5\n"),
			[]api.Score{{Side: 1, Runs: 10, Extras: api.Extras{Penalties: 10}}, {Side: 2, Runs: 5, Extras: api.Extras{Penalties: 5}}, {Side: 1, Runs: 5, Extras: api.Extras{Penalties: 5}}, {Side: 2, Runs: 5, Extras: api.Extras{Penalties: 5}}}},
		{"a follow-on", samples.Long(), samples.Log("TOSS 1 FIELD\nOPEN 1 2\nKEEPER 1\nBOWL 2\nBALL F\nDECLARE 2\nOPEN 1 2\nDECLARE 1\nFOLLOW 2 YES\nOPEN 1 2\nPENALTY 2 5\nPENALTY 1 5\n"),
			[]api.Score{{Side: 2, Runs: 9, Balls: 1, Extras: api.Extras{Penalties: 5}}, {Side: 1}, {Side: 1, Runs: 5, Extras: api.Extras{Penalties: 5}}}},
		{"wickets of all kinds", samples.Long(), samples.Log("TOSS 1 BAT\nOPEN 1 2\nKEEPER 3\nBOWL 1\nBALL ./B1\nTIMEOUT 3\nENTER 4\nRETIRE 4 OUT\n"), []api.Score{{Side: 1, Wickets: 3, Balls: 1}}},
		{"a batter who may return, and one who does", samples.Long(), samples.Log("TOSS 1 BAT\nOPEN 1 2\nRETIRE 1 HURT\nENTER 3\nRETIRE 2 HURT\nENTER 1\n"), []api.Score{{Side: 1}}},
		{"extras", samples.Long(), samples.Log("TOSS 1 BAT\nOPEN 1 2\nKEEPER 3\nBOWL 1\nBALL wF\nBALL nb2\nBALL l3-1\nBALL n2\nBALL 1F\n"),
			[]api.Score{{Side: 1, Runs: 5 + 6 + 2 + 6 + 5, Balls: 2, Extras: api.Extras{Wides: 5, NoBalls: 8, Byes: 2, LegByes: 2}}}},
	} {
		if got, e := tally.Totals(x.r, x.l); e != api.OK || !slices.Equal(got, x.want) {
			t.Errorf("%s: %+v, %d, want %+v", x.name, got, e, x.want)
		}
	}
}

func TestTotalsErrors(t *testing.T) {
	for wantLog, logs := range samples.Faulty() {
		for _, l := range logs {
			if got, e := tally.Totals(samples.Long(), l); e != wantLog || len(got) != 0 {
				t.Errorf("%d events: %+v, %d, want %d", len(l), got, e, wantLog)
			}
			for want, r := range samples.Bad() {
				if got, e := tally.Totals(r, l); e != want || len(got) != 0 {
					t.Errorf("%+v, %d events: %+v, %d", r, len(l), got, e)
				}
			}
		}
	}
	n := api.MaxEvents - 4
	if got, e := tally.Totals(samples.Long(), samples.Wides(api.MaxEvents)); e != api.OK || !slices.Equal(got, []api.Score{{Side: 1, Runs: n, Extras: api.Extras{Wides: n}}}) {
		t.Errorf("as many events as there may be: %+v, %d", got, e)
	}
}

// P19.4

func TestScores(t *testing.T) {
	s, met := rand.New(rand.NewSource(4)), map[api.Ending]int{}
	number := func() int {
		return []int{0, 1, 2, -1, s.Intn(1000), math.MaxInt, math.MinInt}[s.Intn(7)]
	}
	for range 3000 {
		m := api.Match{Rules: api.Rules{Balls: number()}}
		for range s.Intn(6) {
			in := api.Innings{Side: number(), Runs: number(), Wickets: number(), Complete: number(), InOver: number(), Ending: api.Ending(s.Intn(8))}
			in.Extras = api.Extras{Wides: number(), NoBalls: number(), Byes: number(), LegByes: number(), Penalties: number()}
			m.Innings = append(m.Innings, in)
			met[in.Ending]++
		}
		var want []api.Score
		for _, in := range m.Innings {
			want = append(want, api.Score{Side: in.Side, Runs: in.Runs, Wickets: in.Wickets, Balls: in.Complete*m.Rules.Balls + in.InOver, Extras: in.Extras})
		}
		if got := tally.Scores(m); !slices.Equal(got, want) {
			t.Fatalf("%+v: %+v, want %+v", m, got, want)
		}
	}
	if len(met) != 8 {
		t.Errorf("met: %v", met)
	}
	if got := tally.Scores(api.Match{}); len(got) != 0 {
		t.Errorf("no innings: %+v", got)
	}
}

func TestTotalsAreTheScoresOfTheState(t *testing.T) {
	met := map[api.Ending]int{}
	forEachLog(5, func(r api.Rules, l []api.Event) {
		m, _, _ := log.Replay(r, l)
		got, e := tally.Totals(r, l)
		if want := tally.Scores(m); e != api.OK || !slices.Equal(got, want) {
			t.Fatalf("%s, %+v: %+v, %d, the state has %+v", r.Name, l, got, e, want)
		}
		for _, in := range m.Innings {
			met[in.Ending]++
		}
	})
	if len(met) != 6 {
		t.Errorf("met: %v", met)
	}
}

// P19.5

// parties does what the document says of Parties, for an innings that there is.
func parties(r api.Rules, l []api.Event, innings int) api.Credit {
	var sum api.Credit
	played, _, _, _ := log.Play(r, l)
	for _, p := range played {
		if p.Innings == innings {
			sum.Batter += p.Credit.Batter
			sum.Wides += p.Credit.Wides
			sum.NoBalls += p.Credit.NoBalls
			sum.Byes += p.Credit.Byes
			sum.LegByes += p.Credit.LegByes
			sum.Bowler += p.Credit.Bowler
		}
	}
	return sum
}

func TestParties(t *testing.T) {
	met := map[string]int{}
	forEachLog(6, func(r api.Rules, l []api.Event) {
		n := len(openings(l))
		for i := -2; i < n+2; i++ {
			want, wantErr := api.Credit{}, api.ErrRange
			if i >= 0 && i < n {
				want, wantErr = parties(r, l, i), api.OK
			}
			if c, e := tally.Parties(r, l, i); c != want || e != wantErr {
				t.Fatalf("%s, %+v, innings %d: %+v, %d, want %+v, %d", r.Name, l, i, c, e, want, wantErr)
			}
			count(met, map[string]bool{
				"batter": want.Batter > 0, "wides": want.Wides > 0, "no-balls": want.NoBalls > 0, "byes": want.Byes > 0, "leg byes": want.LegByes > 0,
				"bowler": want.Bowler > 0, "an innings without runs": wantErr == api.OK && want == api.Credit{},
			})
		}
	})
	if len(met) != 7 {
		t.Errorf("met: %v", met)
	}
}

func TestPartiesErrors(t *testing.T) {
	good := samples.Log("TOSS 1 BAT\nOPEN 1 2\nKEEPER 2\nBOWL 1\nBALL n2\n")
	for _, i := range []int{0, 1, -1, math.MaxInt, math.MinInt} {
		want, wantErr := api.Credit{}, api.ErrRange
		if i == 0 {
			want, wantErr = api.Credit{Batter: 2, NoBalls: 4, Bowler: 6}, api.OK
		}
		if c, e := tally.Parties(samples.Long(), good, i); c != want || e != wantErr {
			t.Errorf("innings %d: %+v, %d", i, c, e)
		}
		if c, e := tally.Parties(samples.Long(), nil, i); c != (api.Credit{}) || e != api.ErrRange {
			t.Errorf("innings %d of no events: %+v, %d", i, c, e)
		}
		for want, logs := range samples.Faulty() {
			for _, l := range logs {
				if c, e := tally.Parties(samples.Long(), l, i); c != (api.Credit{}) || e != want {
					t.Errorf("innings %d of %d events: %+v, %d, want %d", i, len(l), c, e, want)
				}
			}
		}
		for want, r := range samples.Bad() {
			if c, e := tally.Parties(r, good, i); c != (api.Credit{}) || e != want {
				t.Errorf("%+v, innings %d: %+v, %d", r, i, c, e)
			}
		}
	}
}

// P19.6

func TestRunsAreThoseOfTheParties(t *testing.T) {
	checked := 0
	forEachLog(7, func(r api.Rules, l []api.Event) {
		scores, _ := tally.Totals(r, l)
		for i, s := range scores {
			p, e := tally.Parties(r, l, i)
			batting := p.Batter + p.Wides + p.NoBalls + p.Byes + p.LegByes + s.Extras.Penalties
			bowling := p.Bowler + p.Byes + p.LegByes + s.Extras.Penalties
			if e != api.OK || s.Runs != batting || s.Runs != bowling {
				t.Fatalf("%s, %+v, innings %d: %d runs, %d of the batters, %d of the bowlers", r.Name, l, i, s.Runs, batting, bowling)
			}
			if s.Runs > 20 {
				checked++
			}
		}
	})
	if checked < 100 {
		t.Errorf("only %d innings of many runs", checked)
	}
}

// Arguments stay as they are, and results are new memory.

func TestMemory(t *testing.T) {
	r := samples.Limited()
	r.Power = append(r.Power, api.Phase{From: 77})[:1]
	mark := api.Event{Kind: api.OpenEvent, Side: 77}
	l := append(samples.Log("TOSS 1 BAT\nOPEN 1 2\nPENALTY 2 5\nKEEPER 3\nBOWL 1\nBALL 1\nBALL wF\n"), mark, mark)
	marks := slices.Clone(l)
	short := l[:7]
	for range 2 {
		splits, batting := tally.Splits(short), tally.Sides(short)
		scores, e := tally.Totals(r, short)
		c, partiesErr := tally.Parties(r, short, 0)
		if !slices.Equal(splits, [][2]int{{1, 7}}) || !slices.Equal(batting, []int{1}) || e != api.OK || len(scores) != 1 || scores[0].Runs != 7 || partiesErr != api.OK || c.Batter != 1 {
			t.Fatalf("%v, %v, %+v, %d, %+v, %d", splits, batting, scores, e, c, partiesErr)
		}
		clear(splits[:cap(splits)])
		clear(batting[:cap(batting)])
		clear(scores[:cap(scores)])
	}
	want := append(samples.Limited().Power, api.Phase{From: 77})
	if !slices.Equal(l, marks) || !slices.Equal(r.Power[:2], want) {
		t.Errorf("the arguments became %+v and %+v", l, r.Power[:2])
	}

	m, _, _ := log.Replay(r, short)
	before := match.Clone(m)
	scores := tally.Scores(m)
	clear(scores[:cap(scores)])
	if !reflect.DeepEqual(m, before) || m.Innings[0].Runs != 7 {
		t.Errorf("the state became %+v", m)
	}
}
