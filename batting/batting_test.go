package batting_test

import (
	"math"
	"math/big"
	"math/rand"
	"slices"
	"testing"

	"scorebook/api"
	"scorebook/batting"
	"scorebook/boxbook"
	"scorebook/dismissal"
	"scorebook/exact"
	"scorebook/log"
	"scorebook/samples"
	"scorebook/tally"
)

// forEachLog calls f with random logs of accepted events.
func forEachLog(seed int64, f func(r api.Rules, l []api.Event)) {
	s := rand.New(rand.NewSource(seed))
	for range 100 {
		for _, r := range []api.Rules{samples.Limited(), samples.Long()} {
			tries := s.Intn(500)
			if s.Intn(10) == 0 {
				tries = s.Intn(4)
			}
			f(r, samples.Play(s.Intn, r, tries))
		}
	}
}

// count counts the names of what holds.
func count(met map[string]int, holds map[string]bool) {
	for name, ok := range holds {
		if ok {
			met[name]++
		}
	}
}

// mustCard returns the card of an innings.
func mustCard(t *testing.T, r api.Rules, l []api.Event, innings int) []api.BatLine {
	t.Helper()
	c, e := batting.Card(r, l, innings)
	if e != api.OK {
		t.Fatalf("%+v: Card of the innings %d has the error %d", l, innings, e)
	}
	return c
}

func TestExample(t *testing.T) {
	r, l := samples.Example()
	want := []api.BatLine{{Player: 1, Runs: 1, Balls: 1, Batted: true}, {Player: 2, Balls: 1, Out: true, How: api.Bowled, Bowler: 1, Batted: true}}
	c := mustCard(t, r, l, 0)
	if !slices.Equal(c, want) {
		t.Fatalf("Card: %+v", c)
	}
	side := api.Squad{Name: "OAKS", Players: []string{"ANN", "BOB"}, Captain: 1, Keeper: 2}
	other := api.Squad{Name: "ELMS", Players: []string{"CLEO", "DAN"}, Captain: 2, Keeper: 2}
	if s, e := batting.Text(c, side, other); e != api.OK || s != "ANN (c): 1 (1) NOT OUT\nBOB (k): 0 (1) BOWLED b CLEO\n" {
		t.Errorf("Text: %q, %d", s, e)
	}
	// The second innings is opened by player 2.
	if c := mustCard(t, r, l, 1); !slices.Equal(c, []api.BatLine{{Player: 2, Runs: 4, Balls: 1, Fours: 1, Batted: true}, {Player: 1, Batted: true}}) {
		t.Errorf("Card of the second innings: %+v", c)
	}
}

// P24.1

// order does what the document says of the order of the players of a side, for the events of an innings.
func order(l []api.Event, side int) []int {
	var named []int
	for _, e := range l {
		switch e.Kind {
		case api.OpenEvent:
			named = append(named, e.Player, e.Other)
		case api.EnterEvent:
			named = append(named, e.Player)
		}
	}
	for p := 1; p <= side; p++ {
		named = append(named, p)
	}
	var players []int
	for i, p := range named {
		if slices.Index(named, p) == i {
			players = append(players, p)
		}
	}
	return players
}

// scored does what the document says of the runs and balls of a player, with the deliveries of an innings.
func scored(player int, played []api.Delivered) api.BatLine {
	x := api.BatLine{Player: player}
	for _, p := range played {
		if p.Striker != player {
			continue
		}
		d := p.Delivery
		x.Runs += p.Credit.Batter
		if p.Credit.Faced {
			x.Balls++
		}
		if d.Source == api.OffBat && d.Runs == 0 && d.Boundary == 4 {
			x.Fours++
		}
		if d.Source == api.OffBat && d.Runs == 0 && d.Boundary == 6 {
			x.Sixes++
		}
	}
	return x
}

// card does what the document says of the card of an innings that an accepted log has.
func card(r api.Rules, l []api.Event, innings int) []api.BatLine {
	split := tally.Splits(l)[innings]
	events := l[split[0]:split[1]]
	all, _, _, _ := log.Play(r, l)
	played := slices.DeleteFunc(all, func(p api.Delivered) bool { return p.Innings != innings })
	var c []api.BatLine
	for _, player := range order(events, r.Side) {
		x := scored(player, played)
		for _, p := range played {
			if dismissal.Victim(p.Delivery, p.Striker, p.Partner) == player {
				x.Out, x.How, x.Fielder = true, p.Delivery.How, p.Delivery.Fielder
				if p.Credit.Wicket {
					x.Bowler = p.Bowler
				}
			}
		}
		for _, e := range events {
			switch {
			case e.Kind == api.OpenEvent && (e.Player == player || e.Other == player), e.Kind == api.EnterEvent && !e.Yes && e.Player == player:
				x.Batted = true
			case e.Kind == api.EnterEvent && e.Yes && e.Player == player:
				x.Out, x.How = true, api.TimedOut
			case e.Kind == api.RetireEvent && !e.Yes && e.Player == player:
				x.Out, x.How = true, api.RetiredOut
			}
		}
		c = append(c, x)
	}
	return c
}

func TestCard(t *testing.T) {
	met := map[string]int{}
	forEachLog(1, func(r api.Rules, l []api.Event) {
		n := len(tally.Splits(l))
		for i := range n {
			want := card(r, l, i)
			if got := mustCard(t, r, l, i); !slices.Equal(got, want) {
				t.Fatalf("%s, %+v, innings %d: %+v, want %+v", r.Name, l, i, got, want)
			}
			for _, x := range want {
				count(met, map[string]bool{
					dismissal.Name(x.How): true, "fours": x.Fours > 0, "sixes": x.Sixes > 0, "a fielder": x.Fielder > 0, "a bowler": x.Bowler > 0,
					"did not bat": !x.Batted && !x.Out, "out without batting": !x.Batted && x.Out, "out after batting": x.Batted && x.Out,
				})
			}
		}
		for _, i := range []int{-1, n, n + 1, math.MaxInt, math.MinInt} {
			if c, e := batting.Card(r, l, i); e != api.ErrRange || len(c) != 0 {
				t.Fatalf("%s, %+v, innings %d: %+v, %d", r.Name, l, i, c, e)
			}
		}
	})
	// All ways of being out are met but HITTWICE, of which the samples have no symbol.
	if len(met) != 10+7 {
		t.Errorf("met: %v", met)
	}
}

func TestCardTells(t *testing.T) {
	const begin = "TOSS 1 BAT\nOPEN 3 1\nKEEPER 4\nBOWL 2\n"
	batted := func(player, runs, balls int) api.BatLine {
		return api.BatLine{Player: player, Runs: runs, Balls: balls, Batted: true}
	}
	out := func(x api.BatLine, how api.How, bowler, fielder int) api.BatLine {
		x.Out, x.How, x.Bowler, x.Fielder = true, how, bowler, fielder
		return x
	}
	hits := func(x api.BatLine, fours, sixes int) api.BatLine {
		x.Fours, x.Sixes = fours, sixes
		return x
	}
	two, four := api.BatLine{Player: 2}, api.BatLine{Player: 4}
	for _, x := range []struct {
		name string
		src  string
		want []api.BatLine
	}{
		{"openers", begin, []api.BatLine{batted(3, 0, 0), batted(1, 0, 0), two, four}},
		{"boundaries", begin + "BALL F\nBALL nF\nBALL S\nBALL nS\nBALL F@8\n", []api.BatLine{hits(batted(3, 24, 5), 3, 2), batted(1, 0, 0), two, four}},
		{"boundaries that are none of the batter", begin + "BALL 2F\nBALL bF\nBALL lF\nBALL nbF\nBALL wF\nBALL 4\n", []api.BatLine{batted(3, 10, 5), batted(1, 0, 0), two, four}},
		{"extras", begin + "BALL w\nBALL n.\nBALL b2\nBALL l2\nBALL nl2\n", []api.BatLine{batted(3, 0, 4), batted(1, 0, 0), two, four}},
		{"both batters", begin + "BALL 1\nBALL 3\nBALL 2-1\nBALL w1\nBALL n2\nBALL n1\n", []api.BatLine{batted(3, 2, 2), batted(1, 6, 3), two, four}},
		{"bowled", begin + "BALL 2\nBALL ./B1\nENTER 4\nBALL 2\n", []api.BatLine{out(batted(3, 2, 2), api.Bowled, 2, 0), batted(1, 0, 0), batted(4, 2, 1), two}},
		{"caught by a substitute", begin + "SUB 1 ON\nBALL ./C1(1s)\n", []api.BatLine{out(batted(3, 0, 1), api.Caught, 2, 1), batted(1, 0, 0), two, four}},
		{"leg before wicket", begin + "BALL ./L1\n", []api.BatLine{out(batted(3, 0, 1), api.LegBefore, 2, 0), batted(1, 0, 0), two, four}},
		{"stumped off a wide", begin + "BALL w/S1(4)\n", []api.BatLine{out(batted(3, 0, 0), api.Stumped, 2, 4), batted(1, 0, 0), two, four}},
		{"hit wicket", begin + "BALL ./H1\n", []api.BatLine{out(batted(3, 0, 1), api.HitWicket, 2, 0), batted(1, 0, 0), two, four}},
		{"hit twice", begin + "BALL n./T1\n", []api.BatLine{out(batted(3, 0, 1), api.HitTwice, 0, 0), batted(1, 0, 0), two, four}},
		{"the striker run out", begin + "BALL 1/R1(1,4)\n", []api.BatLine{out(batted(3, 1, 1), api.RunOut, 0, 1), batted(1, 0, 0), two, four}},
		{"the other batter run out", begin + "BALL 1x/R2(3)\n", []api.BatLine{batted(3, 1, 1), out(batted(1, 0, 0), api.RunOut, 0, 3), two, four}},
		{"run out off a wide", begin + "BALL w/R2(3)\n", []api.BatLine{batted(3, 0, 0), out(batted(1, 0, 0), api.RunOut, 0, 3), two, four}},
		{"obstructing", begin + "BALL ./O2\n", []api.BatLine{batted(3, 0, 1), out(batted(1, 0, 0), api.Obstructing, 0, 0), two, four}},
		{"timed out", begin + "BALL ./B1\nTIMEOUT 4\n", []api.BatLine{out(batted(3, 0, 1), api.Bowled, 2, 0), batted(1, 0, 0), out(four, api.TimedOut, 0, 0), two}},
		{"retired", begin + "BALL 1\nRETIRE 3 OUT\n", []api.BatLine{out(batted(3, 1, 1), api.RetiredOut, 0, 0), batted(1, 0, 0), two, four}},
		{"retired hurt", begin + "BALL 1\nRETIRE 3 HURT\n", []api.BatLine{batted(3, 1, 1), batted(1, 0, 0), two, four}},
		{"back after retiring hurt", begin + "BALL 2\nRETIRE 3 HURT\nENTER 4\nRETIRE 1 HURT\nENTER 3\nBALL 1\nBALL 3\n", []api.BatLine{batted(3, 5, 2), batted(1, 0, 0), batted(4, 1, 1), two}},
		{"timed out after retiring hurt", begin + "BALL 2\nRETIRE 3 HURT\nTIMEOUT 3\n", []api.BatLine{out(batted(3, 2, 1), api.TimedOut, 0, 0), batted(1, 0, 0), two, four}},
		{"a penalty", begin + "PENALTY 1 5\nPENALTY 2 5\n", []api.BatLine{batted(3, 0, 0), batted(1, 0, 0), two, four}},
		{"another bowler", begin + "BALL .\nBOWL 3\nBALL ./B1\n", []api.BatLine{out(batted(3, 0, 2), api.Bowled, 3, 0), batted(1, 0, 0), two, four}},
	} {
		l := samples.Log(x.src)
		if got := mustCard(t, samples.Long(), l, 0); !slices.Equal(got, x.want) {
			t.Errorf("%s: %+v, want %+v", x.name, got, x.want)
		}
	}
}

func TestCardOfEachInnings(t *testing.T) {
	l := samples.Log("TOSS 1 BAT\nOPEN 1 2\nKEEPER 3\nBOWL 1\nBALL S\nDECLARE 1\nOPEN 3 4\nKEEPER 3\nBOWL 1\nBALL ./B1\nENTER 1\nBALL 1\nDECLARE 2\nFOLLOW 1 YES\nOPEN 4 3\nKEEPER 3\nBOWL 1\nBALL F\nBALL F\nDECLARE 2\nOPEN 2 4\nKEEPER 2\nBOWL 1\nBALL 2\n")
	for i, want := range [][]api.BatLine{
		{{Player: 1, Runs: 6, Balls: 1, Sixes: 1, Batted: true}, {Player: 2, Batted: true}, {Player: 3}, {Player: 4}},
		{{Player: 3, Balls: 1, Out: true, How: api.Bowled, Bowler: 1, Batted: true}, {Player: 4, Batted: true}, {Player: 1, Runs: 1, Balls: 1, Batted: true}, {Player: 2}},
		{{Player: 4, Runs: 8, Balls: 2, Fours: 2, Batted: true}, {Player: 3, Batted: true}, {Player: 1}, {Player: 2}},
		{{Player: 2, Runs: 2, Balls: 1, Batted: true}, {Player: 4, Batted: true}, {Player: 1}, {Player: 3}},
	} {
		if got := mustCard(t, samples.Long(), l, i); !slices.Equal(got, want) {
			t.Errorf("innings %d: %+v, want %+v", i, got, want)
		}
	}
}

func TestCardErrors(t *testing.T) {
	good := samples.Log("TOSS 1 BAT\nOPEN 1 2\nKEEPER 2\nBOWL 1\nBALL n2\n")
	for _, i := range []int{0, 1, -1, math.MaxInt, math.MinInt} {
		for want, logs := range samples.Faulty() {
			for _, l := range logs {
				if c, e := batting.Card(samples.Long(), l, i); e != want || len(c) != 0 {
					t.Errorf("innings %d of %d events: %+v, %d, want %d", i, len(l), c, e, want)
				}
			}
		}
		for want, r := range samples.Bad() {
			if c, e := batting.Card(r, good, i); e != want || len(c) != 0 {
				t.Errorf("%+v, innings %d: %+v, %d", r, i, c, e)
			}
		}
		for _, l := range [][]api.Event{nil, good[:1]} {
			if c, e := batting.Card(samples.Long(), l, i); e != api.ErrRange || len(c) != 0 {
				t.Errorf("innings %d of %d events: %+v, %d", i, len(l), c, e)
			}
		}
	}
	if c := mustCard(t, samples.Long(), samples.Wides(api.MaxEvents), 0); !slices.Equal(c, []api.BatLine{{Player: 1, Batted: true}, {Player: 2, Batted: true}, {Player: 3}, {Player: 4}}) {
		t.Errorf("the longest log: %+v", c)
	}
}

// The box scorebook tells the same of the batters, but for what it does not have.
func TestCardAgreesWithTheBoxBook(t *testing.T) {
	checked := 0
	forEachLog(2, func(r api.Rules, l []api.Event) {
		books, _ := boxbook.Write(r, l)
		for i, b := range books {
			want, e := boxbook.Batters(r, b)
			got := mustCard(t, r, l, i)[:len(want)]
			for k := range got {
				got[k].Fours, got[k].Sixes, got[k].Fielder = 0, 0, 0
				// The book does not tell whether a batter was in who faced no ball and was timed out then.
				if got[k].How == api.TimedOut && got[k].Balls == 0 {
					got[k].Batted = false
				}
			}
			if e != api.OK || !slices.Equal(got, want) {
				t.Fatalf("%s, %+v, innings %d: %+v, the book has %+v, %d", r.Name, l, i, got, want, e)
			}
			checked += len(want)
		}
	})
	if checked < 300 {
		t.Errorf("only %d lines", checked)
	}
}

// P24.2

func TestTotal(t *testing.T) {
	for _, x := range []struct {
		runs []int
		want int
	}{
		{nil, 0}, {[]int{7}, 7}, {[]int{3, 4, 0}, 7}, {[]int{-3, 1}, -2}, {[]int{1_000_000, 1_000_000}, 2_000_000},
		{[]int{math.MaxInt, 1}, math.MinInt}, {[]int{math.MinInt, math.MinInt, 5}, 5},
	} {
		var c []api.BatLine
		for i, n := range x.runs {
			c = append(c, api.BatLine{Player: i, Runs: n, Balls: 9, Fours: 9, Sixes: 9, Bowler: 9, Fielder: 9, Out: i%2 == 0, Batted: i%2 == 1})
		}
		if got := batting.Total(c); got != x.want {
			t.Errorf("%v: %d, want %d", x.runs, got, x.want)
		}
	}
}

// P24.3

func TestStrikeRate(t *testing.T) {
	numbers := []int{0, 1, 2, 3, 7, 50, 99, 100, 200, 350, 999_983, 999_999, 1_000_000, 1_000_001, -1, -100, math.MaxInt, math.MinInt}
	met := map[api.Errno]int{}
	for _, runs := range numbers {
		for _, balls := range numbers {
			var want api.Ratio
			wantErr := api.OK
			switch {
			case runs < 0 || runs > 1_000_000 || balls < 0 || balls > 1_000_000:
				wantErr = api.ErrRange
			case balls == 0:
				wantErr = api.ErrArg
			default:
				rate := big.NewRat(100*int64(runs), int64(balls))
				want = api.Ratio{Num: rate.Num().Int64(), Den: rate.Denom().Int64()}
			}
			got, e := batting.StrikeRate(api.BatLine{Player: 99, Runs: runs, Balls: balls, Fours: -1, Sixes: -1, How: 99, Bowler: -1, Fielder: -1})
			if got != want || e != wantErr || e == api.OK && !exact.Valid(got) {
				t.Errorf("%d runs, %d balls: %+v, %d, want %+v, %d", runs, balls, got, e, want, wantErr)
			}
			met[wantErr]++
		}
	}
	if len(met) != 3 {
		t.Errorf("met: %v", met)
	}
	for _, x := range []struct {
		runs, balls int
		want        api.Ratio
	}{{0, 9, api.Ratio{Num: 0, Den: 1}}, {7, 6, api.Ratio{Num: 350, Den: 3}}, {50, 50, api.Ratio{Num: 100, Den: 1}}, {1, 1_000_000, api.Ratio{Num: 1, Den: 10_000}}, {1_000_000, 1, api.Ratio{Num: 100_000_000, Den: 1}}} {
		if got, e := batting.StrikeRate(api.BatLine{Runs: x.runs, Balls: x.balls}); got != x.want || e != api.OK {
			t.Errorf("%d runs, %d balls: %+v, %d", x.runs, x.balls, got, e)
		}
	}
}

// P24.5

func TestTotalsAreThoseOfTheInnings(t *testing.T) {
	met := map[string]int{}
	forEachLog(3, func(r api.Rules, l []api.Event) {
		m, _, _ := log.Replay(r, l)
		for i, in := range m.Innings {
			c := mustCard(t, r, l, i)
			p, e := tally.Parties(r, l, i)
			if n := batting.Total(c); e != api.OK || n != p.Batter {
				t.Fatalf("%s, %+v, innings %d: %d runs of the card, %d of the batters", r.Name, l, i, n, p.Batter)
			}
			out := 0
			for _, x := range c {
				if x.Out {
					out++
				}
			}
			if out != in.Wickets || len(c) != r.Side {
				t.Fatalf("%s, %+v, innings %d: %d of %d out, the innings has %d wickets", r.Name, l, i, out, len(c), in.Wickets)
			}
			count(met, map[string]bool{"many runs": p.Batter > 20, "all out": in.Wickets == r.Side-1, "wickets": in.Wickets > 0, "none out": in.Wickets == 0, "a second innings": i > 1})
		}
	})
	if len(met) != 5 {
		t.Errorf("met: %v", met)
	}
}

// Arguments stay as they are, and results are new memory.

func TestMemory(t *testing.T) {
	r := samples.Limited()
	r.Power = append(r.Power, api.Phase{From: 77})[:1]
	mark := api.Event{Kind: api.BallEvent, Side: 77}
	l := append(samples.Log("TOSS 1 BAT\nOPEN 1 2\nKEEPER 3\nBOWL 1\nBALL 1\nBALL F\n"), mark, mark)
	marks := slices.Clone(l)
	want := []api.BatLine{{Player: 1, Runs: 1, Balls: 1, Batted: true}, {Player: 2, Runs: 4, Balls: 1, Fours: 1, Batted: true}, {Player: 3}, {Player: 4}}
	for range 2 {
		c := mustCard(t, r, l[:6], 0)
		if !slices.Equal(c, want) {
			t.Fatalf("%+v", c)
		}
		clear(c[:cap(c)])
	}
	power := append(samples.Limited().Power, api.Phase{From: 77})
	if !slices.Equal(l, marks) || !slices.Equal(r.Power[:2], power) {
		t.Errorf("the arguments became %+v and %+v", l, r.Power[:2])
	}

	c := append(slices.Clone(want), api.BatLine{Player: 77}, api.BatLine{Player: 77})
	kept, side := slices.Clone(c), oaks()
	for range 2 {
		s, e := batting.Text(c[:4], side, elms())
		if e != api.OK || len(s) == 0 || batting.Total(c[:4]) != 5 {
			t.Fatalf("%q, %d", s, e)
		}
	}
	if !slices.Equal(c, kept) || !slices.Equal(side.Players, oaks().Players) {
		t.Errorf("the arguments became %+v and %+v", c, side)
	}
}
