package bowling_test

import (
	"math"
	"math/big"
	"math/rand"
	"slices"
	"testing"

	"scorebook/api"
	"scorebook/bowling"
	"scorebook/boxbook"
	"scorebook/exact"
	"scorebook/log"
	"scorebook/overs"
	"scorebook/samples"
	"scorebook/tally"
)

// forEachLog calls f with random logs of accepted events.
func forEachLog(seed int64, f func(r api.Rules, l []api.Event)) {
	s := rand.New(rand.NewSource(seed))
	for range 60 {
		for _, r := range []api.Rules{samples.Limited(), samples.Long(), samples.Big()} {
			tries := s.Intn(500)
			if s.Intn(10) == 0 {
				tries = s.Intn(4)
			}
			f(r, samples.Play(s.Intn, r, tries))
		}
	}
}

// count counts the names of what holds.
func count(met map[string]int, holds map[string]bool) {
	for name, ok := range holds {
		if ok {
			met[name]++
		}
	}
}

// mustFigures returns the analyses of an innings.
func mustFigures(t *testing.T, r api.Rules, l []api.Event, innings int) []api.BowlLine {
	t.Helper()
	f, e := bowling.Figures(r, l, innings)
	if e != api.OK {
		t.Fatalf("%+v: Figures of the innings %d has the error %d", l, innings, e)
	}
	return f
}

func TestExample(t *testing.T) {
	r, l := samples.Example()
	f := mustFigures(t, r, l, 1)
	if !slices.Equal(f, []api.BowlLine{{Player: 2, Balls: 1, Runs: 5, Wides: 1}}) {
		t.Fatalf("Figures: %+v", f)
	}
	if s, e := bowling.Text(f[0], 4); s != "0.1-0-5-0" || e != api.OK {
		t.Errorf("Text: %q, %d", s, e)
	}
	if x, e := bowling.Economy(f[0], 4); x != (api.Ratio{Num: 20, Den: 1}) || e != api.OK {
		t.Errorf("Economy: %+v, %d", x, e)
	}
	if f := mustFigures(t, r, l, 0); !slices.Equal(f, []api.BowlLine{{Player: 1, Balls: 2, Runs: 1, Wickets: 1}}) {
		t.Errorf("Figures of the first innings: %+v", f)
	}
	if h, e := bowling.HatTricks(r, l); len(h) != 0 || e != api.OK {
		t.Errorf("HatTricks: %+v, %d", h, e)
	}
	if bowling.HatTrick != 5 {
		t.Errorf("HatTrick is %d", bowling.HatTrick)
	}
}

// P25.1

// maidens does what the document says of the maidens of a bowler, with the deliveries of an innings.
func maidens(r api.Rules, player int, played []api.Delivered) int {
	n := 0
	for over := range api.MaxEvents {
		own, others, counted, runs := 0, 0, 0, 0
		for _, p := range played {
			switch {
			case p.Over != over:
				continue
			case p.Bowler != player:
				others++
				continue
			}
			own++
			runs += p.Credit.Bowler
			if p.Credit.Counts {
				counted++
			}
		}
		if own == 0 && others == 0 {
			break
		}
		if others == 0 && counted == r.Balls && runs == 0 {
			n++
		}
	}
	return n
}

// figures does what the document says of the analyses of an innings that an accepted log has.
func figures(r api.Rules, l []api.Event, innings int) []api.BowlLine {
	all, _, _, _ := log.Play(r, l)
	played := slices.DeleteFunc(all, func(p api.Delivered) bool { return p.Innings != innings })
	var players []int
	for _, p := range played {
		if !slices.Contains(players, p.Bowler) {
			players = append(players, p.Bowler)
		}
	}
	var f []api.BowlLine
	for _, player := range players {
		x := api.BowlLine{Player: player, Maidens: maidens(r, player, played)}
		for _, p := range played {
			if p.Bowler != player {
				continue
			}
			x.Runs += p.Credit.Bowler
			for n, ok := range map[*int]bool{&x.Balls: p.Credit.Counts, &x.Wickets: p.Credit.Wicket, &x.Wides: p.Delivery.Type == api.WideBall, &x.NoBalls: p.Delivery.Type == api.NoBall} {
				if ok {
					*n++
				}
			}
		}
		f = append(f, x)
	}
	return f
}

func TestFigures(t *testing.T) {
	met := map[string]int{}
	forEachLog(1, func(r api.Rules, l []api.Event) {
		n := len(tally.Splits(l))
		for i := range n {
			want := figures(r, l, i)
			if got := mustFigures(t, r, l, i); !slices.Equal(got, want) {
				t.Fatalf("%s, %+v, innings %d: %+v, want %+v", r.Name, l, i, got, want)
			}
			sorted := slices.IsSortedFunc(want, func(a, b api.BowlLine) int { return a.Player - b.Player })
			count(met, map[string]bool{"no bowler": len(want) == 0, "many bowlers": len(want) > 2, "another order": !sorted})
			for _, x := range want {
				count(met, map[string]bool{"maidens": x.Maidens > 0, "wickets": x.Wickets > 1, "wides": x.Wides > 1, "no-balls": x.NoBalls > 1, "no balls": x.Balls == 0})
			}
		}
		for _, i := range []int{-1, n, n + 1, math.MaxInt, math.MinInt} {
			if f, e := bowling.Figures(r, l, i); e != api.ErrRange || len(f) != 0 {
				t.Fatalf("%s, %+v, innings %d: %+v, %d", r.Name, l, i, f, e)
			}
		}
	})
	if len(met) != 8 {
		t.Errorf("met: %v", met)
	}
}

func TestFiguresTell(t *testing.T) {
	const begin = "TOSS 1 BAT\nOPEN 3 1\nKEEPER 4\nBOWL 2\n"
	const maiden = "BALL .\nBALL .\nBALL .\nBALL .\nBALL .\n"
	for _, x := range []struct {
		name string
		src  string
		want []api.BowlLine
	}{
		{"no delivery", begin, nil},
		{"a bowler without a delivery", begin + "BOWL 1\nBALL 1\nBOWL 3\n", []api.BowlLine{{Player: 1, Balls: 1, Runs: 1}}},
		{"a wide alone", begin + "BALL w2\n", []api.BowlLine{{Player: 2, Runs: 3, Wides: 1}}},
		{"no-balls", begin + "BALL n2\nBALL nb3\nBALL nl1\nBALL n.\nBALL nF\n", []api.BowlLine{{Player: 2, Runs: 26, NoBalls: 5}}},
		{"runs off the bat", begin + "BALL 3-1\nBALL F\nBALL S\nBALL 2F\n", []api.BowlLine{{Player: 2, Balls: 4, Runs: 18}}},
		{"byes and leg byes", begin + "BALL b2\nBALL l1\nBALL bF\n", []api.BowlLine{{Player: 2, Balls: 3}}},
		{"penalties", begin + "BALL .\nPENALTY 1 5\nPENALTY 2 5\n", []api.BowlLine{{Player: 2, Balls: 1}}},
		{"wickets", begin + "BALL ./B1\nENTER 2\nBALL ./C1(1)\nENTER 4\nBALL ./L1\n", []api.BowlLine{{Player: 2, Balls: 3, Wickets: 3}}},
		{"a wicket off a wide", begin + "BALL w/S1(4)\n", []api.BowlLine{{Player: 2, Runs: 1, Wickets: 1, Wides: 1}}},
		{"wickets that are none of the bowler", begin + "BALL 1/R1(2)\nENTER 2\nBALL ./O1\nENTER 4\nBALL n./T1\n", []api.BowlLine{{Player: 2, Balls: 2, Runs: 5, NoBalls: 1}}},
		{"timed out and retired", begin + "BALL ./B1\nTIMEOUT 2\nENTER 4\nRETIRE 4 OUT\n", []api.BowlLine{{Player: 2, Balls: 1, Wickets: 1}}},
		{"a maiden", begin + maiden, []api.BowlLine{{Player: 2, Balls: 5, Maidens: 1}}},
		{"a maiden with wickets", begin + "BALL ./B1\nENTER 2\nBALL .\nBALL ./R2(1)\nENTER 4\nBALL .\nBALL .\n", []api.BowlLine{{Player: 2, Balls: 5, Maidens: 1, Wickets: 1}}},
		{"a maiden with byes", begin + "BALL b2\nBALL .\nBALL l3\nBALL bF\nBALL lF\n", []api.BowlLine{{Player: 2, Balls: 5, Maidens: 1}}},
		{"a maiden with short runs", begin + "BALL .\nBALL 1-1\nBALL 2-2\nBALL .\nBALL .\n", []api.BowlLine{{Player: 2, Balls: 5, Maidens: 1}}},
		{"a maiden that ends an innings", begin + "BALL .\nBALL .\nBALL .\nBALL ./B1\nENTER 2\nBALL .\nDECLARE 1\n", []api.BowlLine{{Player: 2, Balls: 5, Maidens: 1, Wickets: 1}}},
		{"a run off the last ball", begin + "BALL .\nBALL .\nBALL .\nBALL .\nBALL 1\n", []api.BowlLine{{Player: 2, Balls: 5, Runs: 1}}},
		{"a run off the first ball", begin + "BALL 1\nBALL .\nBALL .\nBALL .\nBALL .\n", []api.BowlLine{{Player: 2, Balls: 5, Runs: 1}}},
		{"an over with a wide", begin + "BALL w\n" + maiden, []api.BowlLine{{Player: 2, Balls: 5, Runs: 1, Wides: 1}}},
		{"an over with a no-ball", begin + "BALL .\nBALL n.\nBALL .\nBALL .\nBALL .\nBALL .\n", []api.BowlLine{{Player: 2, Balls: 5, Runs: 4, NoBalls: 1}}},
		{"an over that is not complete", begin + "BALL .\nBALL .\nBALL .\nBALL .\n", []api.BowlLine{{Player: 2, Balls: 4}}},
		{"an over of two bowlers", begin + "BALL .\nBALL .\nBALL .\nBALL .\nBOWL 1\nBALL .\n", []api.BowlLine{{Player: 2, Balls: 4}, {Player: 1, Balls: 1}}},
		{"an over of a bowler who comes back", begin + "BALL .\nBOWL 1\nBALL .\nBALL .\nBOWL 2\nBALL .\nBALL .\n", []api.BowlLine{{Player: 2, Balls: 3}, {Player: 1, Balls: 2}}},
		{"a bowler who is taken off before the first delivery", begin + "BOWL 3\n" + maiden, []api.BowlLine{{Player: 3, Balls: 5, Maidens: 1}}},
		{"maidens of two bowlers", begin + maiden + "BOWL 1\n" + maiden + "BOWL 2\n" + maiden + "BOWL 3\nBALL .\n", []api.BowlLine{{Player: 2, Balls: 10, Maidens: 2}, {Player: 1, Balls: 5, Maidens: 1}, {Player: 3, Balls: 1}}},
		{"runs in one of two overs", begin + maiden + "BOWL 1\nBALL 2\nBALL .\nBALL .\nBALL .\nBALL .\n", []api.BowlLine{{Player: 2, Balls: 5, Maidens: 1}, {Player: 1, Balls: 5, Runs: 2}}},
	} {
		l := samples.Log(x.src)
		if got := mustFigures(t, samples.Long(), l, 0); !slices.Equal(got, x.want) {
			t.Errorf("%s: %+v, want %+v", x.name, got, x.want)
		}
	}
}

func TestFiguresOfEachInnings(t *testing.T) {
	l := samples.Log("TOSS 1 BAT\nOPEN 1 2\nKEEPER 3\nBOWL 1\nBALL S\nBALL .\nBALL .\nDECLARE 1\nOPEN 3 4\nKEEPER 3\nBOWL 1\nBALL .\nBALL ./B1\nENTER 1\nDECLARE 2\nFOLLOW 1 YES\nOPEN 4 3\nKEEPER 3\nBOWL 2\nBALL .\nBALL .\nBALL .\nBALL .\nBALL .\nBOWL 1\nBALL F\nDECLARE 2\n")
	for i, want := range [][]api.BowlLine{
		{{Player: 1, Balls: 3, Runs: 6}},
		{{Player: 1, Balls: 2, Wickets: 1}},
		{{Player: 2, Balls: 5, Maidens: 1}, {Player: 1, Balls: 1, Runs: 4}},
	} {
		if got := mustFigures(t, samples.Long(), l, i); !slices.Equal(got, want) {
			t.Errorf("innings %d: %+v, want %+v", i, got, want)
		}
	}
}

func TestFiguresErrors(t *testing.T) {
	good := samples.Log("TOSS 1 BAT\nOPEN 1 2\nKEEPER 2\nBOWL 1\nBALL n2\n")
	for _, i := range []int{0, 1, -1, math.MaxInt, math.MinInt} {
		for want, logs := range samples.Faulty() {
			for _, l := range logs {
				if f, e := bowling.Figures(samples.Long(), l, i); e != want || len(f) != 0 {
					t.Errorf("innings %d of %d events: %+v, %d, want %d", i, len(l), f, e, want)
				}
			}
		}
		for want, r := range samples.Bad() {
			if f, e := bowling.Figures(r, good, i); e != want || len(f) != 0 {
				t.Errorf("%+v, innings %d: %+v, %d", r, i, f, e)
			}
		}
		for _, l := range [][]api.Event{nil, good[:1]} {
			if f, e := bowling.Figures(samples.Long(), l, i); e != api.ErrRange || len(f) != 0 {
				t.Errorf("innings %d of %d events: %+v, %d", i, len(l), f, e)
			}
		}
	}
	if f := mustFigures(t, samples.Long(), samples.Wides(api.MaxEvents), 0); !slices.Equal(f, []api.BowlLine{{Player: 1, Runs: api.MaxEvents - 4, Wides: api.MaxEvents - 4}}) {
		t.Errorf("the longest log: %+v", f)
	}
}

// The box scorebook tells the same of the bowlers.
func TestFiguresAgreeWithTheBoxBook(t *testing.T) {
	checked := 0
	forEachLog(2, func(r api.Rules, l []api.Event) {
		books, _ := boxbook.Write(r, l)
		for i, b := range books {
			want, e := boxbook.Bowlers(r, b)
			if got := mustFigures(t, r, l, i); e != api.OK || !slices.Equal(got, want) {
				t.Fatalf("%s, %+v, innings %d: %+v, the book has %+v, %d", r.Name, l, i, got, want, e)
			}
			checked += len(want)
		}
	})
	if checked < 300 {
		t.Errorf("only %d lines", checked)
	}
}

// P25.2

func TestTotal(t *testing.T) {
	for _, x := range []struct {
		runs []int
		want int
	}{
		{nil, 0}, {[]int{7}, 7}, {[]int{3, 4, 0}, 7}, {[]int{-3, 1}, -2}, {[]int{1_000_000, 1_000_000}, 2_000_000},
		{[]int{math.MaxInt, 1}, math.MinInt}, {[]int{math.MinInt, math.MinInt, 5}, 5},
	} {
		var f []api.BowlLine
		for i, n := range x.runs {
			f = append(f, api.BowlLine{Player: i, Runs: n, Balls: 9, Maidens: 9, Wickets: 9, Wides: 9, NoBalls: 9})
		}
		if got := bowling.Total(f); got != x.want {
			t.Errorf("%v: %d, want %d", x.runs, got, x.want)
		}
	}
}

// P25.3

func TestEconomy(t *testing.T) {
	numbers := []int{0, 1, 2, 3, 7, 24, 99, 300, 999_983, 999_999, 1_000_000, 1_000_001, -1, -100, math.MaxInt, math.MinInt}
	met := map[api.Errno]int{}
	for _, runs := range numbers {
		for _, balls := range numbers {
			for _, per := range []int{4, 5, 6, 7, 8, 3, 9, 0, 1, -4, -1, 1_000_000, math.MaxInt, math.MinInt} {
				var want api.Ratio
				wantErr := api.OK
				switch {
				case runs < 0 || runs > 1_000_000 || balls < 0 || balls > 1_000_000 || per < 4 || per > 8:
					wantErr = api.ErrRange
				case balls == 0:
					wantErr = api.ErrArg
				default:
					rate := big.NewRat(int64(per)*int64(runs), int64(balls))
					want = api.Ratio{Num: rate.Num().Int64(), Den: rate.Denom().Int64()}
				}
				got, e := bowling.Economy(api.BowlLine{Player: 99, Runs: runs, Balls: balls, Maidens: -1, Wickets: -1, Wides: -1, NoBalls: -1}, per)
				if got != want || e != wantErr || e == api.OK && !exact.Valid(got) {
					t.Errorf("%d runs, %d balls, overs of %d: %+v, %d, want %+v, %d", runs, balls, per, got, e, want, wantErr)
				}
				met[wantErr]++
			}
		}
	}
	if len(met) != 3 {
		t.Errorf("met: %v", met)
	}
	for _, x := range []struct {
		runs, balls, per int
		want             api.Ratio
	}{{0, 9, 6, api.Ratio{Num: 0, Den: 1}}, {7, 9, 6, api.Ratio{Num: 14, Den: 3}}, {25, 24, 8, api.Ratio{Num: 25, Den: 3}}, {1, 1_000_000, 4, api.Ratio{Num: 1, Den: 250_000}}, {1_000_000, 1, 8, api.Ratio{Num: 8_000_000, Den: 1}}} {
		if got, e := bowling.Economy(api.BowlLine{Runs: x.runs, Balls: x.balls}, x.per); got != x.want || e != api.OK {
			t.Errorf("%d runs, %d balls, overs of %d: %+v, %d", x.runs, x.balls, x.per, got, e)
		}
	}
}

// P25.5

func TestBetter(t *testing.T) {
	numbers := []int{0, 1, 2, 10, -1, math.MaxInt, math.MinInt}
	for _, wickets := range numbers {
		for _, runs := range numbers {
			for _, others := range numbers {
				for _, runsOfOthers := range numbers {
					a := api.BowlLine{Player: 1, Balls: 9, Maidens: 9, Wides: 9, NoBalls: 9, Wickets: wickets, Runs: runs}
					b := api.BowlLine{Player: 2, Wickets: others, Runs: runsOfOthers}
					want := wickets > others || wickets == others && runs < runsOfOthers
					if got := bowling.Better(a, b); got != want {
						t.Errorf("%d-%d better than %d-%d: %v", wickets, runs, others, runsOfOthers, got)
					}
					if bowling.Better(b, a) && want {
						t.Errorf("%d-%d and %d-%d are better than each other", wickets, runs, others, runsOfOthers)
					}
				}
			}
		}
	}
}

// P25.6

func TestText(t *testing.T) {
	for _, x := range []struct {
		line api.BowlLine
		per  int
		want string
	}{
		{api.BowlLine{}, 6, "0.0-0-0-0"},
		{api.BowlLine{Player: -1, Wides: -1, NoBalls: -1}, 6, "0.0-0-0-0"},
		{api.BowlLine{Player: 3, Balls: 23, Maidens: 1, Runs: 17, Wickets: 2, Wides: 4, NoBalls: 5}, 6, "3.5-1-17-2"},
		{api.BowlLine{Balls: 23, Maidens: 10, Runs: 0, Wickets: 7}, 4, "5.3-10-0-7"},
		{api.BowlLine{Balls: 7}, 1, "7.0-0-0-0"},
		{api.BowlLine{Balls: 7}, 8, "0.7-0-0-0"},
		{api.BowlLine{Balls: 1_000_000, Maidens: 1_000_000, Runs: 1_000_000, Wickets: 1_000_000}, 8, "125000.0-1000000-1000000-1000000"},
	} {
		if s, e := bowling.Text(x.line, x.per); s != x.want || e != api.OK {
			t.Errorf("%+v, overs of %d: %q, %d, want %q", x.line, x.per, s, e, x.want)
		}
	}
}

func TestTextErrors(t *testing.T) {
	good := api.BowlLine{Player: 1, Balls: 9, Maidens: 1, Runs: 20, Wickets: 3}
	for _, per := range []int{0, 9, -1, math.MaxInt, math.MinInt} {
		_, want := overs.Text(good.Balls, per)
		if s, e := bowling.Text(good, per); e != want || want == api.OK || s != "" {
			t.Errorf("overs of %d: %q, %d, want %d", per, s, e, want)
		}
	}
	for _, n := range []int{-1, 1_000_001, math.MaxInt, math.MinInt} {
		for name, change := range map[string]func(x *api.BowlLine){
			"balls": func(x *api.BowlLine) { x.Balls = n }, "maidens": func(x *api.BowlLine) { x.Maidens = n },
			"runs": func(x *api.BowlLine) { x.Runs = n }, "wickets": func(x *api.BowlLine) { x.Wickets = n },
		} {
			x := good
			change(&x)
			for _, per := range []int{6, 0} {
				if s, e := bowling.Text(x, per); e != api.ErrRange || s != "" {
					t.Errorf("%d %s, overs of %d: %q, %d", n, name, per, s, e)
				}
			}
		}
	}
}

// P25.7

func TestSumsAreThoseOfTheInnings(t *testing.T) {
	met := map[string]int{}
	forEachLog(3, func(r api.Rules, l []api.Event) {
		scores, _ := tally.Totals(r, l)
		for i, s := range scores {
			f := mustFigures(t, r, l, i)
			p, e := tally.Parties(r, l, i)
			if n := bowling.Total(f); e != api.OK || n != p.Bowler {
				t.Fatalf("%s, %+v, innings %d: %d runs of the figures, %d of the bowlers", r.Name, l, i, n, p.Bowler)
			}
			balls := 0
			for _, x := range f {
				balls += x.Balls
			}
			if balls != s.Balls {
				t.Fatalf("%s, %+v, innings %d: %d balls of the figures, %d of the innings", r.Name, l, i, balls, s.Balls)
			}
			count(met, map[string]bool{"many runs": p.Bowler > 20, "many balls": balls > 20, "no balls": balls == 0, "a third innings": i > 1})
		}
	})
	if len(met) != 4 {
		t.Errorf("met: %v", met)
	}
}

// Arguments stay as they are, and results are new memory.

func TestMemory(t *testing.T) {
	r := samples.Limited()
	r.Power = append(r.Power, api.Phase{From: 77})[:1]
	mark := api.Event{Kind: api.BallEvent, Side: 77}
	l := append(samples.Log("TOSS 1 BAT\nOPEN 1 2\nKEEPER 3\nBOWL 1\nBALL ./B1\nENTER 3\nBALL ./B1\nENTER 4\nBALL ./B1\n"), mark, mark)
	marks := slices.Clone(l)
	for range 2 {
		f := mustFigures(t, r, l[:9], 0)
		if !slices.Equal(f, []api.BowlLine{{Player: 1, Balls: 3, Wickets: 3}}) {
			t.Fatalf("%+v", f)
		}
		clear(f[:cap(f)])
		h, e := bowling.HatTricks(r, l[:9])
		if !slices.Equal(h, []api.Mark{{Kind: bowling.HatTrick, Player: 1, Value: 3, Event: 8}}) || e != api.OK {
			t.Fatalf("%+v, %d", h, e)
		}
		clear(h[:cap(h)])
	}
	power := append(samples.Limited().Power, api.Phase{From: 77})
	if !slices.Equal(l, marks) || !slices.Equal(r.Power[:2], power) {
		t.Errorf("the arguments became %+v and %+v", l, r.Power[:2])
	}
	f := append(make([]api.BowlLine, 2), api.BowlLine{Player: 77})
	if bowling.Total(f[:2]) != 0 || f[2].Player != 77 {
		t.Errorf("the argument became %+v", f)
	}
}
