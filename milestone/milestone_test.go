package milestone_test

import (
	"math"
	"math/rand"
	"slices"
	"testing"

	"scorebook/api"
	"scorebook/batting"
	"scorebook/bowling"
	"scorebook/delivery"
	"scorebook/log"
	"scorebook/milestone"
	"scorebook/partner"
	"scorebook/samples"
	"scorebook/tally"
)

// forEachLog calls f with random logs of accepted events; in some of those with large sides few players do most of the work, and wickets fall often.
func forEachLog(s *rand.Rand, f func(r api.Rules, l []api.Event)) {
	symbols := samples.Symbols()
	few := func(n int) int {
		switch {
		case n == len(symbols) && s.Intn(3) > 0:
			return slices.Index(symbols, "./B1")
		case n == samples.Big().Side && s.Intn(2) == 0:
			return s.Intn(2)
		}
		return s.Intn(n)
	}
	for range 60 {
		for _, r := range []api.Rules{samples.Limited(), samples.Long(), samples.Big()} {
			tries := s.Intn(400)
			if s.Intn(10) == 0 {
				tries = s.Intn(4)
			}
			f(r, samples.Play(s.Intn, r, tries))
		}
		f(samples.Big(), samples.Play(few, samples.Big(), s.Intn(500)))
	}
}

// count counts the names of what holds.
func count(met map[string]int, holds map[string]bool) {
	for name, ok := range holds {
		if ok {
			met[name]++
		}
	}
}

// must returns the milestones of a log.
func must(t *testing.T, r api.Rules, l []api.Event, s milestone.Steps) []api.Mark {
	t.Helper()
	marks, e := milestone.Find(r, l, s)
	if e != api.OK {
		t.Fatalf("%+v, steps %+v: %d", l, s, e)
	}
	return marks
}

func batter(player, value, event int) api.Mark {
	return api.Mark{Kind: milestone.BatterRuns, Player: player, Value: value, Event: event}
}

func bowler(player, value, event int) api.Mark {
	return api.Mark{Kind: milestone.BowlerWickets, Player: player, Value: value, Event: event}
}

func team(value, event int) api.Mark {
	return api.Mark{Kind: milestone.TeamRuns, Value: value, Event: event}
}

func stand(value, event int) api.Mark {
	return api.Mark{Kind: milestone.StandRuns, Value: value, Event: event}
}

func TestExample(t *testing.T) {
	r, l := samples.Example()
	want := []api.Mark{batter(1, 1, 4), bowler(1, 1, 5), batter(2, 4, 10), team(4, 10), stand(4, 10)}
	if got := must(t, r, l, milestone.Steps{Batter: 1, Bowler: 1, Team: 4, Stand: 4}); !slices.Equal(got, want) {
		t.Errorf("Find: %+v", got)
	}
	if n, e := milestone.Next(50, 100); n != 150 || e != api.OK {
		t.Errorf("Next: %d, %d", n, e)
	}
	if s, e := milestone.Text(want[0]); s != "BATTER 1 1 4" || e != api.OK {
		t.Errorf("Text: %q, %d", s, e)
	}
}

// P28.1

func TestStandard(t *testing.T) {
	if s := milestone.Standard(); s != (milestone.Steps{Batter: 50, Bowler: 5, Team: 50, Stand: 50}) {
		t.Errorf("%+v", s)
	}
	for i, kind := range []int{milestone.BatterRuns, milestone.BowlerWickets, milestone.TeamRuns, milestone.StandRuns, milestone.HatTrick} {
		if kind != i+1 {
			t.Errorf("the kind %d is %d", i+1, kind)
		}
	}
	if milestone.HatTrick != bowling.HatTrick || milestone.MaxStep != 1000 || milestone.MaxNumber != 1_000_000 {
		t.Errorf("HatTrick %d, MaxStep %d, MaxNumber %d", milestone.HatTrick, milestone.MaxStep, milestone.MaxNumber)
	}
}

func TestFindWithStandardSteps(t *testing.T) {
	r := api.Rules{Name: "FULL", Side: 11, Innings: 1, Overs: 50, Balls: 6, Wide: 1, NoBall: 1}
	const fours = "BALL F\nBALL F\nBALL F\nBALL F\nBALL F\nBALL F\n"
	src := "TOSS 1 BAT\nOPEN 1 2\nKEEPER 11\nBOWL 1\n" + fours + "BOWL 2\n" + fours + "BOWL 1\n" + fours + "BOWL 2\n" + fours +
		"BOWL 1\nBALL F\nBALL ./B1\nENTER 3\nBALL ./B1\nENTER 4\nBALL ./B1\nENTER 5\nBALL ./B1\nENTER 6\nBALL ./B1\n"
	want := []api.Mark{team(50, 18), stand(50, 18), batter(1, 50, 32), team(100, 32), stand(100, 32), bowler(1, 5, 41)}
	if got := must(t, r, samples.Log(src), milestone.Standard()); !slices.Equal(got, want) {
		t.Errorf("%+v, want %+v", got, want)
	}
}

// P28.2

// sum adds up what some of the deliveries count for.
func sum(played []api.Delivered, of func(p api.Delivered) bool, n func(c api.Credit) int) int {
	all := 0
	for _, p := range played {
		if of(p) {
			all += n(p.Credit)
		}
	}
	return all
}

// begins reports whether a stand begins with an event.
func begins(e api.Event) bool {
	return e.Kind == api.OpenEvent || e.Kind == api.EnterEvent && !e.Yes
}

// value does what the document says of the value of a kind for a delivery p, after some of the deliveries.
func value(kind int, p api.Delivered, l []api.Event, played []api.Delivered) int {
	switch kind {
	case 1:
		return sum(played, func(q api.Delivered) bool { return q.Innings == p.Innings && q.Striker == p.Striker }, func(c api.Credit) int { return c.Batter })
	case 2:
		return sum(played, func(q api.Delivered) bool { return q.Innings == p.Innings && q.Bowler == p.Bowler && q.Credit.Wicket }, func(api.Credit) int { return 1 })
	}
	return sum(played, func(q api.Delivered) bool { return !slices.ContainsFunc(l[q.Event:p.Event+1], begins) }, delivery.Total)
}

// milestones does what the document says of the milestones of an accepted log.
func milestones(r api.Rules, l []api.Event, s milestone.Steps) []api.Mark {
	played, _, _, _ := log.Play(r, l)
	var marks []api.Mark
	for i, p := range played {
		for k, step := range []int{s.Batter, s.Bowler, s.Team, s.Stand} {
			m := api.Mark{Kind: k + 1, Player: []int{p.Striker, p.Bowler, 0, 0}[k], Event: p.Event}
			before, after := value(m.Kind, p, l, played[:i]), value(m.Kind, p, l, played[:i+1])
			if m.Kind == milestone.TeamRuns {
				after = p.Runs
				before = after - delivery.Total(p.Credit)
			}
			m.Value = after / step * step
			if after/step > before/step {
				marks = append(marks, m)
			}
		}
	}
	return marks
}

// randomSteps returns steps, many of which are small.
func randomSteps(s *rand.Rand) milestone.Steps {
	step := func(usual int) int {
		return []int{1, 1 + s.Intn(usual), 1 + s.Intn(usual), 1 + s.Intn(milestone.MaxStep), milestone.MaxStep}[s.Intn(5)]
	}
	return milestone.Steps{Batter: step(10), Bowler: step(3), Team: step(30), Stand: step(20)}
}

func TestFind(t *testing.T) {
	met := map[string]int{}
	s := rand.New(rand.NewSource(1))
	forEachLog(s, func(r api.Rules, l []api.Event) {
		steps := randomSteps(s)
		want := milestones(r, l, steps)
		if got := must(t, r, l, steps); !slices.Equal(got, want) {
			t.Fatalf("%s, %+v, steps %+v: %+v, want %+v", r.Name, l, steps, got, want)
		}
		for i, m := range want {
			step := []int{steps.Batter, steps.Bowler, steps.Team, steps.Stand}[m.Kind-1]
			name := []string{"", "batter", "bowler", "team", "stand"}[m.Kind]
			count(met, map[string]bool{
				name: true, name + " by one": step == 1, name + " first": m.Value == step && step > 1, name + " again": m.Value > step && step > 1,
				"three at once": i > 1 && want[i-2].Event == m.Event, "an innings later": len(tally.Splits(l[:m.Event])) > 1,
			})
		}
		count(met, map[string]bool{"none": len(want) == 0, "none in a long log": len(want) == 0 && len(l) > 30})
	})
	if len(met) != 20 {
		t.Errorf("met %d: %v", len(met), met)
	}
}

const begin = "TOSS 1 BAT\nOPEN 3 1\nKEEPER 4\nBOWL 2\n" // the next event has the index 4

func TestFindTells(t *testing.T) {
	const never = milestone.MaxStep
	runs := func(n int) milestone.Steps {
		return milestone.Steps{Batter: n, Bowler: never, Team: never, Stand: never}
	}
	wickets := func(n int) milestone.Steps {
		return milestone.Steps{Batter: never, Bowler: n, Team: never, Stand: never}
	}
	total := func(n int) milestone.Steps {
		return milestone.Steps{Batter: never, Bowler: never, Team: n, Stand: never}
	}
	pair := func(n int) milestone.Steps {
		return milestone.Steps{Batter: never, Bowler: never, Team: never, Stand: n}
	}
	ones := milestone.Steps{Batter: 1, Bowler: 1, Team: 1, Stand: 1}
	for _, x := range []struct {
		name  string
		src   string
		steps milestone.Steps
		want  []api.Mark
	}{
		{"no delivery", begin + "PENALTY 1 5\n", ones, nil},
		{"a dot ball", begin + "BALL .\n", ones, nil},
		{"a run", begin + "BALL 1\n", ones, []api.Mark{batter(3, 1, 4), team(1, 4), stand(1, 4)}},
		{"all kinds", begin + "BALL 1/R1(1)\nENTER 2\nBALL nl1\nBALL ./B1\n", ones, []api.Mark{batter(3, 1, 4), team(1, 4), stand(1, 4), team(6, 6), stand(5, 6), bowler(2, 1, 7)}},
		{"a run and a wicket", begin + "BALL 1/R1(1)\n", ones, []api.Mark{batter(3, 1, 4), team(1, 4), stand(1, 4)}},
		{"a wide and a wicket", begin + "BALL w/S1(4)\n", ones, []api.Mark{bowler(2, 1, 4), team(1, 4), stand(1, 4)}},
		{"several multiples at once", begin + "BALL S\nBALL S\n", runs(4), []api.Mark{batter(3, 4, 4), batter(3, 12, 5)}},
		{"a multiple is reached", begin + "BALL 2\nBALL 2\nBALL 2\nBALL 2\n", runs(4), []api.Mark{batter(3, 4, 5), batter(3, 8, 7)}},
		{"a multiple is passed", begin + "BALL 3\nBALL 3\nBALL 2\n", runs(4), []api.Mark{batter(3, 4, 6)}},
		{"no multiple", begin + "BALL 2\nBALL F\n", runs(7), nil},
		{"each of two batters", begin + "BALL 1\nBALL 2\nBALL 1\nBALL 2\n", runs(3), []api.Mark{batter(1, 3, 6), batter(3, 3, 7)}},
		{"extras are not the batter's", begin + "BALL w2\nBALL b2\nBALL l2\nBALL nb2\nBALL nl2\nBALL n2\n", runs(1), []api.Mark{batter(3, 2, 9)}},
		{"short runs", begin + "BALL 3-1\nBALL 1-1\n", runs(1), []api.Mark{batter(3, 2, 4)}},
		{"a batter who comes back", begin + "BALL 2\nRETIRE 3 HURT\nENTER 2\nBALL 2\nRETIRE 2 HURT\nENTER 3\nBALL 2\n", runs(4), []api.Mark{batter(3, 4, 10)}},
		{"wickets", begin + "BALL ./B1\nENTER 2\nBALL ./L1\nENTER 4\nBALL ./C1(1)\n", wickets(1), []api.Mark{bowler(2, 1, 4), bowler(2, 2, 6), bowler(2, 3, 8)}},
		{"a second wicket", begin + "BALL ./B1\nENTER 2\nBALL ./L1\nENTER 4\nBALL ./C1(1)\n", wickets(2), []api.Mark{bowler(2, 2, 6)}},
		{"wickets that are none of the bowler", begin + "BALL ./R1(1)\nENTER 2\nBALL ./O1\nENTER 4\nRETIRE 4 OUT\n", wickets(1), nil},
		{"wickets of two bowlers", begin + "BALL ./B1\nENTER 2\nBOWL 1\nBALL ./B1\nENTER 4\nBOWL 2\nBALL ./B1\n", wickets(2), []api.Mark{bowler(2, 2, 10)}},
		{"the side's runs", begin + "BALL 2\nBALL w2\nBALL nb2\nBALL lF\nBALL 1\n", total(5), []api.Mark{team(5, 5), team(10, 6), team(15, 7)}},
		{"penalties are counted", begin + "BALL 2\nPENALTY 1 5\nBALL 2\nBALL 1\n", total(9), []api.Mark{team(9, 6)}},
		{"penalties pass the step", begin + "BALL 2\nPENALTY 1 5\nBALL 1\nBALL F\n", total(6), []api.Mark{team(12, 7)}},
		{"penalties before the first delivery", begin + "PENALTY 1 5\nPENALTY 1 5\nBALL 1\nBALL F\n", total(5), []api.Mark{team(15, 7)}},
		{"penalties of the other side", begin + "BALL 2\nPENALTY 2 5\nBALL 2\n", total(4), []api.Mark{team(4, 6)}},
		{"penalties are not the stand's", begin + "BALL 2\nPENALTY 1 5\nBALL 2\nBALL 2\n", pair(6), []api.Mark{stand(6, 7)}},
		{"the stand's runs", begin + "BALL 2\nBALL w2\nBALL nb2\nBALL lF\nBALL 1\n", pair(5), []api.Mark{stand(5, 5), stand(10, 6), stand(15, 7)}},
		{"the next stand", begin + "BALL F\nBALL ./B1\nENTER 2\nBALL 3\nBALL 2\n", pair(5), []api.Mark{stand(5, 8)}},
		{"a stand after a retirement", begin + "BALL F\nRETIRE 3 HURT\nENTER 2\nBALL F\nRETIRE 1 HURT\nENTER 3\nBALL F\nBALL F\n", pair(8), []api.Mark{stand(8, 11)}},
		{"a batter who comes back begins a stand", begin + "BALL F\nRETIRE 3 HURT\nENTER 3\nBALL F\n", pair(5), nil},
		{"nobody comes in for a batter who is timed out", begin + "BALL ./B1\nTIMEOUT 2\nENTER 4\nBALL 2\nBALL 2\n", pair(4), []api.Mark{stand(4, 8)}},
		{"other events do not end a stand", begin + "BALL 2\nKEEPER 1\nFIELD 0\nBOWL 3\nBALL 2\n", pair(4), []api.Mark{stand(4, 8)}},
		{"nor does an over", begin + "BALL 2\nBALL .\nBALL .\nBALL .\nBALL .\nBOWL 1\nBALL 2\n", milestone.Steps{Batter: 2, Bowler: 1, Team: 4, Stand: 4}, []api.Mark{batter(3, 2, 4), batter(1, 2, 10), team(4, 10), stand(4, 10)}},
	} {
		if got := must(t, samples.Long(), samples.Log(x.src), x.steps); !slices.Equal(got, x.want) {
			t.Errorf("%s: %+v, want %+v", x.name, got, x.want)
		}
	}
}

// In each innings all values begin with 0, but for penalty runs that are due to it.
func TestFindInEachInnings(t *testing.T) {
	r := samples.Long()
	r.FollowOn = 0
	const next = "OPEN 1 2\nKEEPER 3\nBOWL 1\n"
	l := samples.Log("TOSS 1 BAT\n" + next + "BALL F\nBALL ./B1\nENTER 3\nDECLARE 1\n" +
		next + "BALL F\nBALL ./B1\nENTER 3\nPENALTY 1 5\nDECLARE 2\n" +
		next + "PENALTY 2 5\nBALL F\nBALL ./B1\nENTER 3\nBALL ./B1\nDECLARE 1\n" +
		next + "BALL F\n")
	want := []api.Mark{
		batter(1, 4, 4), team(4, 4), stand(4, 4), bowler(1, 1, 5),
		batter(1, 4, 11), team(4, 11), stand(4, 11), bowler(1, 1, 12),
		batter(1, 4, 20), team(4, 20), stand(4, 20), bowler(1, 1, 21), bowler(1, 2, 23),
		batter(1, 4, 28), team(4, 28), stand(4, 28),
	}
	if got := must(t, r, l, milestone.Steps{Batter: 4, Bowler: 1, Team: 4, Stand: 4}); !slices.Equal(got, want) {
		t.Errorf("%+v, want %+v", got, want)
	}
	// These penalty runs wait for the first innings of side 2.
	waiting := samples.Log("TOSS 1 BAT\n" + next + "PENALTY 2 5\nDECLARE 1\n" + next + "BALL 2\nBALL 2\n")
	if got := must(t, r, waiting, milestone.Steps{Batter: 3, Bowler: 1, Team: 3, Stand: 3}); !slices.Equal(got, []api.Mark{team(6, 9), batter(1, 3, 10), team(9, 10), stand(3, 10)}) {
		t.Errorf("%+v", got)
	}
}

func TestFindErrors(t *testing.T) {
	check := func(name string, r api.Rules, l []api.Event, s milestone.Steps, want api.Errno) {
		t.Helper()
		if m, e := milestone.Find(r, l, s); e != want || len(m) != 0 {
			t.Errorf("%s, steps %+v: %+v, %d, want %d", name, s, m, e, want)
		}
	}
	good := samples.Log("TOSS 1 BAT\nOPEN 1 2\nKEEPER 2\nBOWL 1\nBALL 1\n")
	refused := append(slices.Clone(good), api.Event{Kind: api.BallEvent})
	steps := []milestone.Steps{{Batter: 1, Bowler: 1, Team: 1, Stand: 1}, {}}
	for _, n := range []int{0, -1, milestone.MaxStep + 1, math.MaxInt, math.MinInt} {
		wrong := []milestone.Steps{
			{Batter: n, Bowler: 1, Team: 1, Stand: 1}, {Batter: 1, Bowler: n, Team: 1, Stand: 1},
			{Batter: 1, Bowler: 1, Team: n, Stand: 1}, {Batter: 1, Bowler: 1, Team: 1, Stand: n},
		}
		for _, s := range wrong {
			check("wrong steps", samples.Long(), good, s, api.ErrRange)
			check("wrong steps without events", samples.Long(), nil, s, api.ErrRange)
		}
		steps = append(steps, wrong...)
	}
	for i, s := range steps {
		check("a refused event after a run", samples.Long(), refused, s, api.ErrLaw)
		for want, r := range samples.Bad() {
			check("bad rules", r, good, s, want)
		}
		if i > 2 {
			continue
		}
		for want, logs := range samples.Faulty() {
			for _, l := range logs {
				check("a faulty log", samples.Long(), l, s, want)
			}
		}
	}
	check("no event", samples.Long(), nil, steps[0], api.OK)
	check("a toss", samples.Long(), good[:1], steps[0], api.OK)
	check("the greatest steps", samples.Long(), good, milestone.Steps{Batter: 1000, Bowler: 1000, Team: 1000, Stand: 1000}, api.OK)
}

func TestFindInTheLongestLog(t *testing.T) {
	l := samples.Wides(api.MaxEvents)
	var want []api.Mark
	for n := 1; n <= (api.MaxEvents-4)/milestone.MaxStep; n++ {
		want = append(want, team(n*milestone.MaxStep, n*milestone.MaxStep+3))
	}
	if got := must(t, samples.Long(), l, milestone.Steps{Batter: 1, Bowler: 1, Team: 1000, Stand: 1000}); len(want) == 0 || !slices.Equal(slices.DeleteFunc(got, func(m api.Mark) bool { return m.Kind == milestone.StandRuns }), want) {
		t.Errorf("%+v, want %+v and the stand's", got, want)
	}
}

// Other layers tell the same: with the step 1 the last values are those of the bowling analyses, the stands and the score.
func TestFindAgreesWithOtherLayers(t *testing.T) {
	met := map[string]int{}
	forEachLog(rand.New(rand.NewSource(2)), func(r api.Rules, l []api.Event) {
		marks := must(t, r, l, milestone.Steps{Batter: 1, Bowler: 1, Team: 1, Stand: 1})
		last := func(kind, player, from, to int) int {
			n := 0
			for _, m := range marks {
				if m.Kind == kind && m.Player == player && m.Event >= from && m.Event < to {
					n = m.Value
				}
			}
			return n
		}
		for i, split := range tally.Splits(l) {
			figures, _ := bowling.Figures(r, l, i)
			for _, x := range figures {
				if n := last(milestone.BowlerWickets, x.Player, split[0], split[1]); n != x.Wickets {
					t.Fatalf("%s, %+v, innings %d: %d wickets of %+v", r.Name, l, i, n, x)
				}
				count(met, map[string]bool{"many wickets": x.Wickets > 1})
			}
			stands, _ := partner.Stands(r, l, i)
			from := split[0]
			for _, s := range stands {
				to := from + 1
				for to < split[1] && !begins(l[to]) {
					to++
				}
				if n := last(milestone.StandRuns, 0, from, to); n != s.Runs {
					t.Fatalf("%s, %+v, innings %d: %d runs of %+v", r.Name, l, i, n, s)
				}
				count(met, map[string]bool{"many runs": s.Runs > 9, "another stand": from > split[0]})
				from = to
			}
		}
	})
	if len(met) != 3 {
		t.Errorf("met: %v", met)
	}
}

// P28.3

func TestNext(t *testing.T) {
	steps := []int{1, 2, 3, 5, 50, 100, 999, 1000, 0, -1, -50, 1001, math.MaxInt, math.MinInt}
	values := []int{0, 1, 2, 49, 50, 51, 99, 100, 999, 1000, 1001, 999_999, 1_000_000, -1, -50, 1_000_001, math.MaxInt, math.MinInt}
	for _, step := range steps {
		for _, value := range values {
			want, wantErr := 0, api.ErrRange
			if step >= 1 && step <= 1000 && value >= 0 && value <= 1_000_000 {
				wantErr = api.OK
				for want = value + 1; want%step != 0; {
					want++
				}
			}
			if n, e := milestone.Next(step, value); n != want || e != wantErr {
				t.Errorf("Next(%d, %d): %d, %d, want %d, %d", step, value, n, e, want, wantErr)
			}
		}
	}
}

// P28.5

func TestValuesOfABatterAscendToTheRuns(t *testing.T) {
	met := map[string]int{}
	forEachLog(rand.New(rand.NewSource(3)), func(r api.Rules, l []api.Event) {
		marks := must(t, r, l, milestone.Steps{Batter: 1, Bowler: 1000, Team: 1000, Stand: 1000})
		for i, split := range tally.Splits(l) {
			card, e := batting.Card(r, l, i)
			if e != api.OK {
				t.Fatal(e)
			}
			for _, line := range card {
				last, n := 0, 0
				for _, m := range marks {
					if m.Player != line.Player || m.Event < split[0] || m.Event >= split[1] {
						continue
					}
					if m.Kind != milestone.BatterRuns || m.Value <= last {
						t.Fatalf("%s, %+v, innings %d: %+v after the value %d", r.Name, l, i, m, last)
					}
					last = m.Value
					n++
				}
				if last != line.Runs {
					t.Fatalf("%s, %+v, innings %d: the values end with %d, the line is %+v", r.Name, l, i, last, line)
				}
				count(met, map[string]bool{"no runs": last == 0, "many marks": n > 3, "another innings": i > 0 && n > 0})
			}
		}
	})
	if len(met) != 3 {
		t.Errorf("met: %v", met)
	}
}

// Arguments stay as they are, and results are new memory.

func TestMemory(t *testing.T) {
	r := samples.Limited()
	r.Power = append(r.Power, api.Phase{From: 77})[:1]
	ball := api.Event{Kind: api.BallEvent, Side: 77}
	l := append(samples.Log("TOSS 1 BAT\nOPEN 1 2\nKEEPER 3\nBOWL 1\nBALL ./B1\nENTER 3\nBALL 2\n"), ball, ball)
	before := slices.Clone(l)
	for range 2 {
		m := must(t, r, l[:7], milestone.Steps{Batter: 1, Bowler: 1, Team: 2, Stand: 2})
		if !slices.Equal(m, []api.Mark{bowler(1, 1, 4), batter(3, 2, 6), team(2, 6), stand(2, 6)}) {
			t.Fatalf("%+v", m)
		}
		clear(m[:cap(m)])
	}
	power := append(samples.Limited().Power, api.Phase{From: 77})
	if !slices.Equal(l, before) || !slices.Equal(r.Power[:2], power) {
		t.Errorf("the arguments became %+v and %+v", l, r.Power[:2])
	}
}
