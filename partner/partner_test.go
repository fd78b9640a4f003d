package partner_test

import (
	"math"
	"math/rand"
	"slices"
	"testing"

	"scorebook/api"
	"scorebook/delivery"
	"scorebook/dismissal"
	"scorebook/innings"
	"scorebook/log"
	"scorebook/partner"
	"scorebook/samples"
	"scorebook/tally"
)

// forEachLog calls f with random logs of accepted events.
func forEachLog(seed int64, f func(r api.Rules, l []api.Event)) {
	s := rand.New(rand.NewSource(seed))
	for range 50 {
		for _, r := range []api.Rules{samples.Limited(), samples.Long(), samples.Big()} {
			tries := s.Intn(400)
			if s.Intn(10) == 0 {
				tries = s.Intn(4)
			}
			f(r, samples.Play(s.Intn, r, tries))
		}
	}
}

// count counts the names of what holds.
func count(met map[string]int, holds map[string]bool) {
	for name, ok := range holds {
		if ok {
			met[name]++
		}
	}
}

// mustStands returns the partnerships of an innings.
func mustStands(t *testing.T, r api.Rules, l []api.Event, innings int) []api.Stand {
	t.Helper()
	stands, e := partner.Stands(r, l, innings)
	if e != api.OK {
		t.Fatalf("%+v: Stands of the innings %d has the error %d", l, innings, e)
	}
	return stands
}

// mustFalls returns the falls of the wickets of an innings.
func mustFalls(t *testing.T, r api.Rules, l []api.Event, innings int) []api.Fall {
	t.Helper()
	falls, e := partner.Falls(r, l, innings)
	if e != api.OK {
		t.Fatalf("%+v: Falls of the innings %d has the error %d", l, innings, e)
	}
	return falls
}

func TestExample(t *testing.T) {
	r, l := samples.Example()
	if got := mustStands(t, r, l, 0); !slices.Equal(got, []api.Stand{{Wicket: 1, First: 1, Second: 2, Runs: 1, Balls: 2, Broken: true}}) {
		t.Errorf("Stands: %+v", got)
	}
	falls := mustFalls(t, r, l, 0)
	if !slices.Equal(falls, []api.Fall{{Wicket: 1, Runs: 1, Player: 2, Balls: 2}}) {
		t.Errorf("Falls: %+v", falls)
	}
	if s, e := partner.Text(falls); s != "1-1 (2)" || e != api.OK {
		t.Errorf("Text: %q, %d", s, e)
	}
	if got := mustStands(t, r, l, 1); !slices.Equal(got, []api.Stand{{Wicket: 1, First: 1, Second: 2, Runs: 5, Balls: 1}}) {
		t.Errorf("Stands of the second innings: %+v", got)
	}
	if got := mustFalls(t, r, l, 1); len(got) != 0 {
		t.Errorf("Falls of the second innings: %+v", got)
	}
}

// out is a dismissal: the index of its event, and the player.
type out struct{ event, player int }

// dismissals does what the document says of the dismissals of an innings that an accepted log has.
func dismissals(r api.Rules, l []api.Event, index int) []out {
	split := tally.Splits(l)[index]
	played, _, _, _ := log.Play(r, l)
	var outs []out
	for i := split[0]; i < split[1]; i++ {
		e := l[i]
		switch {
		case e.Kind == api.BallEvent && e.Ball.How != api.NotOut:
			at := slices.IndexFunc(played, func(p api.Delivered) bool { return p.Event == i })
			outs = append(outs, out{i, dismissal.Victim(e.Ball, played[at].Striker, played[at].Partner)})
		case e.Kind == api.EnterEvent && e.Yes, e.Kind == api.RetireEvent && !e.Yes:
			outs = append(outs, out{i, e.Player})
		}
	}
	return outs
}

// P26.1

// stands does what the document says of the partnerships of an innings that an accepted log has.
func stands(r api.Rules, l []api.Event, index int) []api.Stand {
	split := tally.Splits(l)[index]
	outs := dismissals(r, l, index)
	var starts []int
	for i := split[0]; i < split[1]; i++ {
		if l[i].Kind == api.OpenEvent || l[i].Kind == api.EnterEvent && !l[i].Yes {
			starts = append(starts, i)
		}
	}
	var all []api.Stand
	for k, from := range starts {
		to := append(starts, split[1])[k+1]
		m, _ := log.At(r, l, from+1)
		in := m.Innings[index]
		pair := []int{in.Striker, in.Other}
		slices.Sort(pair)
		s := api.Stand{Wicket: 1, First: pair[0], Second: pair[1]}
		for _, e := range l[from:to] {
			if e.Kind == api.BallEvent {
				c := delivery.Credit(r, e.Ball)
				s.Runs += delivery.Total(c)
				if c.Counts {
					s.Balls++
				}
			}
		}
		for _, o := range outs {
			if o.event < from {
				s.Wicket++
			}
			if o.event >= from && o.event < to && slices.Contains(pair, o.player) {
				s.Broken = true
			}
		}
		all = append(all, s)
	}
	return all
}

func TestStands(t *testing.T) {
	met := map[string]int{}
	forEachLog(1, func(r api.Rules, l []api.Event) {
		n := len(tally.Splits(l))
		for i := range n {
			want := stands(r, l, i)
			if got := mustStands(t, r, l, i); !slices.Equal(got, want) {
				t.Fatalf("%s, %+v, innings %d: %+v, want %+v", r.Name, l, i, got, want)
			}
			for k, s := range want {
				last := k == len(want)-1
				count(met, map[string]bool{
					"broken": s.Broken, "broken at last": s.Broken && last, "not broken": !s.Broken, "left by a retirement": !s.Broken && !last, "later": s.Wicket > 3,
					"the same wicket": k > 0 && s.Wicket == want[k-1].Wicket, "two wickets later": k > 0 && s.Wicket > want[k-1].Wicket+1, "runs": s.Runs > 9, "no ball": s.Balls == 0,
				})
			}
		}
		for _, i := range []int{-1, n, n + 1, math.MaxInt, math.MinInt} {
			if s, e := partner.Stands(r, l, i); e != api.ErrRange || len(s) != 0 {
				t.Fatalf("%s, %+v, innings %d: %+v, %d", r.Name, l, i, s, e)
			}
		}
	})
	if len(met) != 9 {
		t.Errorf("met: %v", met)
	}
}

const begin = "TOSS 1 BAT\nOPEN 3 1\nKEEPER 4\nBOWL 2\n"

func TestStandsTell(t *testing.T) {
	stand := func(wicket, first, second, runs, balls int) api.Stand {
		return api.Stand{Wicket: wicket, First: first, Second: second, Runs: runs, Balls: balls}
	}
	broken := func(wicket, first, second, runs, balls int) api.Stand {
		s := stand(wicket, first, second, runs, balls)
		s.Broken = true
		return s
	}
	for _, x := range []struct {
		name string
		src  string
		want []api.Stand
	}{
		{"openers", begin, []api.Stand{stand(1, 1, 3, 0, 0)}},
		{"runs and extras", begin + "BALL 1\nBALL 3-1\nBALL w2\nBALL nF\nBALL b2\nBALL lF\nBALL nl1\n", []api.Stand{stand(1, 1, 3, 25, 4)}},
		{"penalties", begin + "BALL 2\nPENALTY 1 5\nPENALTY 2 5\nBALL .\n", []api.Stand{stand(1, 1, 3, 2, 2)}},
		{"the striker out", begin + "BALL 2\nBALL ./B1\n", []api.Stand{broken(1, 1, 3, 2, 2)}},
		{"the other batter out", begin + "BALL 1x/R2(3)\n", []api.Stand{broken(1, 1, 3, 1, 1)}},
		{"the next batter", begin + "BALL 1\nBALL ./B1\nENTER 2\nBALL S\nBALL w\n", []api.Stand{broken(1, 1, 3, 1, 2), stand(2, 2, 3, 7, 1)}},
		{"all stands", begin + "BALL ./B1\nENTER 2\nBALL 2\nBALL ./B1\nENTER 4\nBALL F\nBALL ./O2\n", []api.Stand{broken(1, 1, 3, 0, 1), broken(2, 1, 2, 2, 2), broken(3, 1, 4, 4, 2)}},
		{"a batter is timed out", begin + "BALL ./B1\nTIMEOUT 4\nENTER 2\nBALL 1\n", []api.Stand{broken(1, 1, 3, 0, 1), stand(3, 1, 2, 1, 1)}},
		{"a batter retires", begin + "BALL 1\nRETIRE 1 OUT\nENTER 4\nBALL 1\n", []api.Stand{broken(1, 1, 3, 1, 1), stand(2, 3, 4, 1, 1)}},
		{"a batter retires hurt", begin + "BALL 1\nRETIRE 1 HURT\nENTER 4\nBALL 1\n", []api.Stand{stand(1, 1, 3, 1, 1), stand(1, 3, 4, 1, 1)}},
		{"a batter comes back", begin + "RETIRE 3 HURT\nENTER 4\nBALL 2\nRETIRE 1 HURT\nENTER 3\nBALL ./B1\nENTER 1\n", []api.Stand{stand(1, 1, 3, 0, 0), stand(1, 1, 4, 2, 1), broken(1, 3, 4, 0, 1), stand(2, 1, 3, 0, 0)}},
		{"a batter comes back at once", begin + "BALL 2\nRETIRE 3 HURT\nENTER 3\nBALL 2\n", []api.Stand{stand(1, 1, 3, 2, 1), stand(1, 1, 3, 2, 1)}},
		{"a batter who retired hurt is timed out at once", begin + "RETIRE 3 HURT\nTIMEOUT 3\nENTER 4\n", []api.Stand{broken(1, 1, 3, 0, 0), stand(2, 1, 4, 0, 0)}},
		{"another batter is timed out after a retirement", begin + "RETIRE 3 HURT\nTIMEOUT 2\nENTER 4\n", []api.Stand{stand(1, 1, 3, 0, 0), stand(2, 1, 4, 0, 0)}},
		{"a batter who retired hurt is timed out later", begin + "RETIRE 3 HURT\nENTER 2\nBALL 2\nRETIRE 1 HURT\nTIMEOUT 3\nENTER 1\n", []api.Stand{stand(1, 1, 3, 0, 0), stand(1, 1, 2, 2, 1), stand(2, 1, 2, 0, 0)}},
		{"a batter retires out at the end of an innings", begin + "BALL 1\nRETIRE 3 OUT\nDECLARE 1\n", []api.Stand{broken(1, 1, 3, 1, 1)}},
		{"an over", begin + "BALL 1\nBALL .\nBALL .\nBALL .\nBALL .\nBOWL 3\nBALL 1\n", []api.Stand{stand(1, 1, 3, 2, 6)}},
	} {
		if got := mustStands(t, samples.Long(), samples.Log(x.src), 0); !slices.Equal(got, x.want) {
			t.Errorf("%s: %+v, want %+v", x.name, got, x.want)
		}
	}
}

// P26.2

// falls does what the document says of the falls of an innings that an accepted log has.
func falls(r api.Rules, l []api.Event, index int) []api.Fall {
	var all []api.Fall
	for k, o := range dismissals(r, l, index) {
		m, _ := log.At(r, l, o.event+1)
		in := m.Innings[index]
		all = append(all, api.Fall{Wicket: k + 1, Runs: in.Runs, Player: o.player, Balls: innings.Balls(r, in)})
	}
	return all
}

func TestFalls(t *testing.T) {
	met := map[string]int{}
	forEachLog(2, func(r api.Rules, l []api.Event) {
		n := len(tally.Splits(l))
		for i := range n {
			want := falls(r, l, i)
			if got := mustFalls(t, r, l, i); !slices.Equal(got, want) {
				t.Fatalf("%s, %+v, innings %d: %+v, want %+v", r.Name, l, i, got, want)
			}
			for k, f := range want {
				count(met, map[string]bool{"at once": f.Balls == 0, "an over later": f.Balls > r.Balls, "at the same ball": k > 0 && f.Balls == want[k-1].Balls, "many": f.Wicket > 3, "runs": f.Runs > 9, "an innings later": i > 0})
			}
		}
		for _, i := range []int{-1, n, n + 1, math.MaxInt, math.MinInt} {
			if f, e := partner.Falls(r, l, i); e != api.ErrRange || len(f) != 0 {
				t.Fatalf("%s, %+v, innings %d: %+v, %d", r.Name, l, i, f, e)
			}
		}
	})
	if len(met) != 6 {
		t.Errorf("met: %v", met)
	}
}

func TestFallsTell(t *testing.T) {
	fall := func(wicket, runs, player, balls int) api.Fall {
		return api.Fall{Wicket: wicket, Runs: runs, Player: player, Balls: balls}
	}
	for _, x := range []struct {
		name string
		src  string
		want []api.Fall
	}{
		{"no wicket", begin + "BALL 2\nRETIRE 3 HURT\nENTER 2\n", nil},
		{"the striker out", begin + "BALL 1\nBALL ./B1\n", []api.Fall{fall(1, 1, 1, 2)}},
		{"the other batter out", begin + "BALL 2x/R2(3)\n", []api.Fall{fall(1, 2, 1, 1)}},
		{"out off a wide", begin + "BALL w/S1(4)\n", []api.Fall{fall(1, 1, 3, 0)}},
		{"out off a no-ball", begin + "BALL n1/R1(4)\n", []api.Fall{fall(1, 5, 3, 0)}},
		{"out off the last ball of an over", begin + "BALL .\nBALL .\nBALL .\nBALL .\nBALL ./B1\nENTER 2\nBOWL 1\nBALL ./B1\n", []api.Fall{fall(1, 0, 3, 5), fall(2, 0, 1, 6)}},
		{"timed out", begin + "BALL 1\nBALL ./B1\nTIMEOUT 2\nTIMEOUT 4\n", []api.Fall{fall(1, 1, 1, 2), fall(2, 1, 2, 2), fall(3, 1, 4, 2)}},
		{"timed out after retiring hurt", begin + "BALL 1\nRETIRE 1 HURT\nTIMEOUT 1\n", []api.Fall{fall(1, 1, 1, 1)}},
		{"retired", begin + "BALL 1\nRETIRE 1 OUT\n", []api.Fall{fall(1, 1, 1, 1)}},
		{"penalties before and after a wicket", begin + "PENALTY 1 5\nPENALTY 2 5\nBALL ./B1\nPENALTY 1 5\nENTER 2\nBALL ./B1\n", []api.Fall{fall(1, 5, 3, 1), fall(2, 10, 2, 2)}},
		{"byes and leg byes", begin + "BALL b2\nBALL l2\nBALL nb2\nBALL ./B1\n", []api.Fall{fall(1, 10, 3, 3)}},
		{"all out", begin + "BALL ./B1\nENTER 2\nBALL 2\nBALL ./B1\nENTER 4\nBALL F\nBALL ./O2\n", []api.Fall{fall(1, 0, 3, 1), fall(2, 2, 2, 3), fall(3, 6, 1, 5)}},
	} {
		if got := mustFalls(t, samples.Long(), samples.Log(x.src), 0); !slices.Equal(got, x.want) {
			t.Errorf("%s: %+v, want %+v", x.name, got, x.want)
		}
	}
}

func TestEachInnings(t *testing.T) {
	// The penalties of the second innings are due to the first one, in which no wicket falls any more, and wait for none.
	l := samples.Log("TOSS 1 BAT\nOPEN 1 2\nKEEPER 3\nBOWL 1\nBALL S\nBALL ./B1\nENTER 3\nDECLARE 1\nOPEN 3 4\nKEEPER 3\nBOWL 1\nPENALTY 1 5\nPENALTY 2 5\nBALL ./B1\nENTER 1\nBALL 1\nDECLARE 2\nFOLLOW 1 YES\nOPEN 4 3\nKEEPER 3\nBOWL 1\nBALL F\nBALL 1\nDECLARE 2\nOPEN 2 4\nKEEPER 2\nBOWL 1\nBALL 1/R1(1)\n")
	for i, want := range []struct {
		stands []api.Stand
		falls  []api.Fall
	}{
		{[]api.Stand{{Wicket: 1, First: 1, Second: 2, Runs: 6, Balls: 2, Broken: true}, {Wicket: 2, First: 2, Second: 3}}, []api.Fall{{Wicket: 1, Runs: 6, Player: 1, Balls: 2}}},
		{[]api.Stand{{Wicket: 1, First: 3, Second: 4, Balls: 1, Broken: true}, {Wicket: 2, First: 1, Second: 4, Runs: 1, Balls: 1}}, []api.Fall{{Wicket: 1, Runs: 5, Player: 3, Balls: 1}}},
		{[]api.Stand{{Wicket: 1, First: 3, Second: 4, Runs: 5, Balls: 2}}, nil},
		{[]api.Stand{{Wicket: 1, First: 2, Second: 4, Runs: 1, Balls: 1, Broken: true}}, []api.Fall{{Wicket: 1, Runs: 1, Player: 2, Balls: 1}}},
	} {
		if got := mustStands(t, samples.Long(), l, i); !slices.Equal(got, want.stands) {
			t.Errorf("innings %d: %+v, want %+v", i, got, want.stands)
		}
		if got := mustFalls(t, samples.Long(), l, i); !slices.Equal(got, want.falls) {
			t.Errorf("innings %d: %+v, want %+v", i, got, want.falls)
		}
	}
}

func TestErrors(t *testing.T) {
	check := func(name string, r api.Rules, l []api.Event, i int, want api.Errno) {
		t.Helper()
		if s, e := partner.Stands(r, l, i); e != want || len(s) != 0 {
			t.Errorf("%s, innings %d: Stands returns %+v, %d, want %d", name, i, s, e, want)
		}
		if f, e := partner.Falls(r, l, i); e != want || len(f) != 0 {
			t.Errorf("%s, innings %d: Falls returns %+v, %d, want %d", name, i, f, e, want)
		}
	}
	good := samples.Log("TOSS 1 BAT\nOPEN 1 2\nKEEPER 2\nBOWL 1\nBALL ./B1\n")
	refused := append(slices.Clone(good), api.Event{Kind: api.BallEvent})
	for _, i := range []int{0, 1, -1, math.MaxInt, math.MinInt} {
		for want, logs := range samples.Faulty() {
			for _, l := range logs {
				check("a faulty log", samples.Long(), l, i, want)
			}
		}
		for want, r := range samples.Bad() {
			check("bad rules", r, good, i, want)
		}
		check("a refused event after a wicket", samples.Long(), refused, i, api.ErrLaw)
		check("no event", samples.Long(), nil, i, api.ErrRange)
		check("a toss", samples.Long(), good[:1], i, api.ErrRange)
	}
	l := samples.Wides(api.MaxEvents)
	if s := mustStands(t, samples.Long(), l, 0); !slices.Equal(s, []api.Stand{{Wicket: 1, First: 1, Second: 2, Runs: api.MaxEvents - 4}}) {
		t.Errorf("the longest log: %+v", s)
	}
	if f := mustFalls(t, samples.Long(), l, 0); len(f) != 0 {
		t.Errorf("the longest log: %+v", f)
	}
}

// P26.4

func TestSumsAreThoseOfTheInnings(t *testing.T) {
	met := map[string]int{}
	forEachLog(3, func(r api.Rules, l []api.Event) {
		m, _, _ := log.Replay(r, l)
		for i, in := range m.Innings {
			runs := 0
			for _, s := range mustStands(t, r, l, i) {
				runs += s.Runs
			}
			if want := in.Runs - in.Extras.Penalties; runs != want {
				t.Fatalf("%s, %+v, innings %d: %d runs of the stands, %d of the innings", r.Name, l, i, runs, want)
			}
			f := mustFalls(t, r, l, i)
			if len(f) != in.Wickets {
				t.Fatalf("%s, %+v, innings %d: %d falls, %d wickets", r.Name, l, i, len(f), in.Wickets)
			}
			for k := 1; k < len(f); k++ {
				if f[k].Runs < f[k-1].Runs || f[k].Balls < f[k-1].Balls {
					t.Fatalf("%s, %+v, innings %d: %+v comes before %+v", r.Name, l, i, f[k-1], f[k])
				}
			}
			count(met, map[string]bool{"many runs": runs > 20, "penalties": in.Extras.Penalties > 0, "all out": in.Wickets == r.Side-1, "none out": in.Wickets == 0, "a third innings": i > 1})
		}
	})
	if len(met) != 5 {
		t.Errorf("met: %v", met)
	}
}

// Arguments stay as they are, and results are new memory.

func TestMemory(t *testing.T) {
	r := samples.Limited()
	r.Power = append(r.Power, api.Phase{From: 77})[:1]
	mark := api.Event{Kind: api.BallEvent, Side: 77}
	l := append(samples.Log("TOSS 1 BAT\nOPEN 1 2\nKEEPER 3\nBOWL 1\nBALL 2\nBALL ./B1\nENTER 3\nBALL F\n"), mark, mark)
	marks := slices.Clone(l)
	for range 2 {
		s := mustStands(t, r, l[:8], 0)
		if !slices.Equal(s, []api.Stand{{Wicket: 1, First: 1, Second: 2, Runs: 2, Balls: 2, Broken: true}, {Wicket: 2, First: 2, Second: 3, Runs: 4, Balls: 1}}) {
			t.Fatalf("%+v", s)
		}
		clear(s[:cap(s)])
		f := mustFalls(t, r, l[:8], 0)
		if !slices.Equal(f, []api.Fall{{Wicket: 1, Runs: 2, Player: 1, Balls: 2}}) {
			t.Fatalf("%+v", f)
		}
		clear(f[:cap(f)])
	}
	power := append(samples.Limited().Power, api.Phase{From: 77})
	if !slices.Equal(l, marks) || !slices.Equal(r.Power[:2], power) {
		t.Errorf("the arguments became %+v and %+v", l, r.Power[:2])
	}

	f := []api.Fall{{Wicket: 1, Runs: 2, Player: 3, Balls: 4}, {Wicket: 77}, {Wicket: 77}}
	kept := slices.Clone(f)
	for range 2 {
		if s, e := partner.Text(f[:1]); s != "1-2 (3)" || e != api.OK {
			t.Fatalf("%q, %d", s, e)
		}
		p, e := partner.Parse("1-2 (3)")
		if !slices.Equal(p, []api.Fall{{Wicket: 1, Runs: 2, Player: 3}}) || e != api.OK {
			t.Fatalf("%+v, %d", p, e)
		}
		clear(p[:cap(p)])
	}
	if !slices.Equal(f, kept) {
		t.Errorf("the argument became %+v", f)
	}
}
