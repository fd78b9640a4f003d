package wheel_test

import (
	"math"
	"math/rand"
	"slices"
	"testing"

	"scorebook/api"
	"scorebook/delivery"
	"scorebook/log"
	"scorebook/samples"
	"scorebook/tally"
	"scorebook/wheel"
)

// forEachLog calls f with random logs of accepted events, whose strokes go in all directions.
func forEachLog(seed int64, f func(r api.Rules, l []api.Event)) {
	s := rand.New(rand.NewSource(seed))
	for range 30 {
		for _, r := range []api.Rules{samples.Limited(), samples.Long(), samples.Big()} {
			tries := s.Intn(400)
			if s.Intn(10) == 0 {
				tries = s.Intn(4)
			}
			l := samples.Play(s.Intn, r, tries)
			for i := range l {
				turned := l[i].Ball
				turned.Sector = s.Intn(wheel.Sectors + 1)
				if l[i].Kind == api.BallEvent && delivery.Legal(turned) == api.Legal {
					l[i].Ball = turned
				}
			}
			f(r, l)
		}
	}
}

// count counts the names of what holds.
func count(met map[string]int, holds map[string]bool) {
	for name, ok := range holds {
		if ok {
			met[name]++
		}
	}
}

// list is a function of an innings that returns a list of numbers.
type list func(r api.Rules, l []api.Event, innings int) ([]int, api.Errno)

// of returns the function that returns the wheel of a player.
func of(player int) list {
	return func(r api.Rules, l []api.Event, innings int) ([]int, api.Errno) {
		return wheel.Wheel(r, l, innings, player)
	}
}

// must returns the list of an innings.
func must(t *testing.T, f list, r api.Rules, l []api.Event, innings int) []int {
	t.Helper()
	n, e := f(r, l, innings)
	if e != api.OK {
		t.Fatalf("%+v: the innings %d has the error %d", l, innings, e)
	}
	return n
}

func TestExample(t *testing.T) {
	r, l := samples.Example()
	if got := must(t, wheel.ByOver, r, l, 1); !slices.Equal(got, []int{5}) {
		t.Errorf("ByOver: %d", got)
	}
	if got := must(t, of(2), r, l, 1); !slices.Equal(got, []int{4, 0, 0, 0, 0, 0, 0, 0, 0}) {
		t.Errorf("Wheel: %d", got)
	}
	if got, e := wheel.Mirror([]int{9, 1, 2, 3, 4, 5, 6, 7, 8}); !slices.Equal(got, []int{9, 8, 7, 6, 5, 4, 3, 2, 1}) || e != api.OK {
		t.Errorf("Mirror: %d, %d", got, e)
	}
}

// P27.1

// element does what the document says of an element of a wheel.
func element(played []api.Delivered, innings, player, sector int) int {
	n := 0
	for _, p := range played {
		if p.Innings == innings && p.Delivery.Sector == sector && (player == 0 || p.Striker == player) {
			n += p.Credit.Batter
		}
	}
	return n
}

func TestWheel(t *testing.T) {
	if wheel.Sectors != 8 {
		t.Errorf("%d sectors", wheel.Sectors)
	}
	met := map[string]int{}
	forEachLog(1, func(r api.Rules, l []api.Event) {
		played, _, _, _ := log.Play(r, l)
		for i := range tally.Splits(l) {
			for player := range r.Side + 1 {
				got := must(t, of(player), r, l, i)
				if len(got) != 9 {
					t.Fatalf("%d numbers", len(got))
				}
				for sector, runs := range got {
					if want := element(played, i, player, sector); runs != want {
						t.Fatalf("%s, %+v, innings %d, player %d, sector %d: %d, want %d", r.Name, l, i, player, sector, runs, want)
					}
					count(met, map[string]bool{"unknown": sector == 0 && runs > 0, "first": sector == 1 && runs > 0, "last": sector == 8 && runs > 0, "none": runs == 0, "many": runs > 6, "all": player == 0 && runs > 0, "the last player": player == r.Side && runs > 0, "later": i > 1 && runs > 0})
				}
			}
			for _, player := range []int{-1, r.Side + 1, math.MaxInt, math.MinInt} {
				if w, e := wheel.Wheel(r, l, i, player); e != api.ErrRange || len(w) != 0 {
					t.Fatalf("%s, %+v, innings %d, player %d: %d, %d", r.Name, l, i, player, w, e)
				}
			}
		}
	})
	if len(met) != 8 {
		t.Errorf("met: %v", met)
	}
}

const begin = "TOSS 1 BAT\nOPEN 3 1\nKEEPER 4\nBOWL 2\n"

func TestWheelTell(t *testing.T) {
	for _, x := range []struct {
		name   string
		src    string
		player int
		want   [9]int
	}{
		{"no delivery", begin, 0, [9]int{}},
		{"a player who has not batted", begin + "BALL F@3\n", 2, [9]int{}},
		{"the batter who did not face", begin + "BALL F@3\n", 1, [9]int{}},
		{"every sector", begin + "BALL 2\nBALL F@1\nBALL S@2\nBALL 2@3\nBALL 2@4\nBOWL 1\nBALL 3@5\nBALL F@6\nBALL 2@7\nBALL S@8\n", 0, [9]int{2, 4, 6, 2, 2, 3, 4, 2, 6}},
		{"one of two batters", begin + "BALL 1@5\nBALL 3@5\nBALL F@5\n", 3, [9]int{5: 5}},
		{"the other one of two batters", begin + "BALL 1@5\nBALL 3@5\nBALL F@5\n", 1, [9]int{5: 3}},
		{"short runs", begin + "BALL 3-1@2\n", 3, [9]int{2: 2}},
		{"an overthrow", begin + "BALL 1F@2\n", 3, [9]int{2: 5}},
		{"no-balls", begin + "BALL n2@4\nBALL nF@7\n", 3, [9]int{4: 2, 7: 4}},
		{"extras", begin + "BALL w2\nBALL b2\nBALL l2\nBALL nb2\nBALL nl2\n", 0, [9]int{}},
		{"penalties", begin + "BALL 2@8\nPENALTY 1 5\nPENALTY 2 5\n", 0, [9]int{8: 2}},
		{"a run and a run out", begin + "BALL 1/R1(2)@6\n", 0, [9]int{6: 1}},
		{"a catch", begin + "BALL ./C1(1)@6\n", 0, [9]int{}},
		{"a batter who comes back", begin + "BALL 2@1\nRETIRE 3 HURT\nENTER 2\nBALL 4@1\nRETIRE 2 HURT\nENTER 3\nBALL F@8\n", 3, [9]int{1: 2, 8: 4}},
	} {
		if got := must(t, of(x.player), samples.Long(), samples.Log(x.src), 0); !slices.Equal(got, x.want[:]) {
			t.Errorf("%s: %d, want %d", x.name, got, x.want)
		}
	}
}

// P27.2 and P27.3

// byOver does what the document says of the runs of the overs, as long as any delivery is in an over or behind it.
func byOver(r api.Rules, l []api.Event, innings int) []int {
	played, _, _, _ := log.Play(r, l)
	var all []int
	for over := 0; slices.ContainsFunc(played, func(p api.Delivered) bool { return p.Innings == innings && p.Over >= over }); over++ {
		n := 0
		for _, p := range played {
			if p.Innings == innings && p.Over == over {
				n += delivery.Total(p.Credit)
			}
		}
		all = append(all, n)
	}
	return all
}

func TestByOverAndWorm(t *testing.T) {
	met := map[string]int{}
	forEachLog(2, func(r api.Rules, l []api.Event) {
		n := len(tally.Splits(l))
		for i := range n {
			want := byOver(r, l, i)
			if got := must(t, wheel.ByOver, r, l, i); !slices.Equal(got, want) {
				t.Fatalf("%s, %+v, innings %d: by over %d, want %d", r.Name, l, i, got, want)
			}
			worm := must(t, wheel.Worm, r, l, i)
			if len(worm) != len(want) {
				t.Fatalf("%s, %+v, innings %d: worm %d of overs %d", r.Name, l, i, worm, want)
			}
			for k := range want {
				total := 0
				for _, n := range want[:k+1] {
					total += n
				}
				if worm[k] != total {
					t.Fatalf("%s, %+v, innings %d: worm %d of overs %d", r.Name, l, i, worm, want)
				}
				count(met, map[string]bool{"no runs": want[k] == 0, "no runs at last": want[k] == 0 && k == len(want)-1, "many runs": want[k] > 15, "many overs": k > 3, "an innings later": i > 0})
			}
			count(met, map[string]bool{"no over": len(want) == 0, "one over": len(want) == 1})
		}
	})
	if len(met) != 7 {
		t.Errorf("met: %v", met)
	}
}

func TestByOverTell(t *testing.T) {
	const over = "BALL .\nBALL .\nBALL .\nBALL .\nBALL .\n"
	for _, x := range []struct {
		name       string
		src        string
		want, worm []int
	}{
		{"no delivery", begin, nil, nil},
		{"a dot ball", begin + "BALL .\n", []int{0}, []int{0}},
		{"an over", begin + "BALL 2\n" + over[7:], []int{2}, []int{2}},
		{"an over and a bowler", begin + over + "BOWL 1\n", []int{0}, []int{0}},
		{"an over and a ball", begin + "BALL 2\n" + over[7:] + "BOWL 1\nBALL F\n", []int{2, 4}, []int{2, 6}},
		{"an over and a wide", begin + over + "BOWL 1\nBALL w\n", []int{0, 1}, []int{0, 1}},
		{"extras", begin + "BALL w2\nBALL nb2\nBALL nF\nBALL b3\nBALL lF\n", []int{24}, []int{24}},
		{"short runs", begin + "BALL 3-1\n", []int{2}, []int{2}},
		{"penalties", begin + "BALL 2\nPENALTY 1 5\nPENALTY 2 5\n", []int{2}, []int{2}},
		{"penalties alone", begin + "PENALTY 1 5\n", nil, nil},
		{"two bowlers in one over", begin + "BALL 2\nBOWL 1\nBALL 2\n", []int{4}, []int{4}},
		{"many overs", begin + over + "BOWL 1\nBALL F\n" + over[7:] + "BOWL 2\n" + over + "BOWL 1\nBALL 2\nBALL S\n", []int{0, 4, 0, 8}, []int{0, 4, 4, 12}},
	} {
		l := samples.Log(x.src)
		if got := must(t, wheel.ByOver, samples.Long(), l, 0); !slices.Equal(got, x.want) {
			t.Errorf("%s: by over %d, want %d", x.name, got, x.want)
		}
		if got := must(t, wheel.Worm, samples.Long(), l, 0); !slices.Equal(got, x.worm) {
			t.Errorf("%s: worm %d, want %d", x.name, got, x.worm)
		}
	}
}

func TestEachInnings(t *testing.T) {
	l := samples.Log("TOSS 1 BAT\nOPEN 1 2\nKEEPER 3\nBOWL 1\nBALL S@2\nDECLARE 1\nOPEN 3 1\nKEEPER 3\nBOWL 1\nBALL 2@3\nDECLARE 2\nFOLLOW 1 YES\nOPEN 4 3\nKEEPER 3\nBOWL 2\nBALL .\nBALL .\nBALL .\nBALL .\nBALL 1\nBOWL 1\nBALL F@5\nDECLARE 2\n")
	for i, want := range []struct {
		wheel, by, worm []int
	}{
		{[]int{0, 0, 6, 0, 0, 0, 0, 0, 0}, []int{6}, []int{6}},
		{[]int{0, 0, 0, 2, 0, 0, 0, 0, 0}, []int{2}, []int{2}},
		{[]int{1, 0, 0, 0, 0, 4, 0, 0, 0}, []int{1, 4}, []int{1, 5}},
	} {
		if got := must(t, of(0), samples.Long(), l, i); !slices.Equal(got, want.wheel) {
			t.Errorf("innings %d: wheel %d, want %d", i, got, want.wheel)
		}
		if got := must(t, wheel.ByOver, samples.Long(), l, i); !slices.Equal(got, want.by) {
			t.Errorf("innings %d: by over %d, want %d", i, got, want.by)
		}
		if got := must(t, wheel.Worm, samples.Long(), l, i); !slices.Equal(got, want.worm) {
			t.Errorf("innings %d: worm %d, want %d", i, got, want.worm)
		}
	}
}

func TestErrors(t *testing.T) {
	check := func(name string, r api.Rules, l []api.Event, innings int, want api.Errno) {
		t.Helper()
		for _, f := range []list{of(0), of(1), of(-1), of(12), of(math.MaxInt), wheel.ByOver, wheel.Worm} {
			if n, e := f(r, l, innings); e != want || len(n) != 0 {
				t.Errorf("%s, innings %d: %d, %d, want %d", name, innings, n, e, want)
			}
		}
	}
	good := samples.Log("TOSS 1 BAT\nOPEN 1 2\nKEEPER 2\nBOWL 1\nBALL 1@3\n")
	refused := append(slices.Clone(good), api.Event{Kind: api.BallEvent})
	for _, i := range []int{0, 1, -1, math.MaxInt, math.MinInt} {
		for want, logs := range samples.Faulty() {
			for _, l := range logs {
				check("a faulty log", samples.Long(), l, i, want)
			}
		}
		for want, r := range samples.Bad() {
			check("bad rules", r, good, i, want)
		}
		check("a refused event after a run", samples.Long(), refused, i, api.ErrLaw)
		check("no event", samples.Long(), nil, i, api.ErrRange)
		check("a toss", samples.Long(), good[:1], i, api.ErrRange)
		if i != 0 {
			check("another innings", samples.Long(), good, i, api.ErrRange)
		}
	}
	l := samples.Wides(api.MaxEvents)
	for _, f := range []list{wheel.ByOver, wheel.Worm} {
		if got := must(t, f, samples.Long(), l, 0); !slices.Equal(got, []int{api.MaxEvents - 4}) {
			t.Errorf("the longest log: %d", got)
		}
	}
}

// P27.4

func TestMirror(t *testing.T) {
	s := rand.New(rand.NewSource(3))
	for range 1000 {
		w := make([]int, wheel.Sectors+1)
		for i := range w {
			w[i] = []int{s.Intn(50), int(s.Uint64()), math.MaxInt, math.MinInt}[s.Intn(4)]
		}
		m, e := wheel.Mirror(w)
		if len(m) != len(w) || e != api.OK {
			t.Fatalf("%d: %d, %d", w, m, e)
		}
		for k := range w {
			to := k
			if k > 0 {
				to = wheel.Sectors + 1 - k
			}
			if m[to] != w[k] {
				t.Fatalf("%d: %d", w, m)
			}
		}
		if again, e := wheel.Mirror(m); !slices.Equal(again, w) || e != api.OK {
			t.Fatalf("%d twice: %d, %d", w, again, e)
		}
	}
	for n := range 30 {
		if m, e := wheel.Mirror(make([]int, n)); n != 9 && (e != api.ErrArg || len(m) != 0) {
			t.Errorf("%d numbers: %d, %d", n, m, e)
		}
	}
}

// P27.5

func TestSumsAreThoseOfTheInnings(t *testing.T) {
	met := map[string]int{}
	forEachLog(4, func(r api.Rules, l []api.Event) {
		scores, _ := tally.Totals(r, l)
		for i, s := range scores {
			added := make([]int, wheel.Sectors+1)
			for player := 1; player <= r.Side; player++ {
				for k, n := range must(t, of(player), r, l, i) {
					added[k] += n
				}
			}
			all := must(t, of(0), r, l, i)
			sum := 0
			for _, n := range all {
				sum += n
			}
			p, e := tally.Parties(r, l, i)
			if !slices.Equal(added, all) || sum != p.Batter || e != api.OK {
				t.Fatalf("%s, %+v, innings %d: the wheels add up to %d, that of all is %d, the batters have %d", r.Name, l, i, added, all, p.Batter)
			}
			last := 0
			if worm := must(t, wheel.Worm, r, l, i); len(worm) > 0 {
				last = worm[len(worm)-1]
			}
			if last != s.Runs-s.Extras.Penalties {
				t.Fatalf("%s, %+v, innings %d: the worm ends with %d, the score is %+v", r.Name, l, i, last, s)
			}
			count(met, map[string]bool{"many runs": sum > 20, "no runs": sum == 0, "penalties": s.Extras.Penalties > 0, "extras": last > sum, "a third innings": i > 1})
		}
	})
	if len(met) != 5 {
		t.Errorf("met: %v", met)
	}
}

// Arguments stay as they are, and results are new memory.

func TestMemory(t *testing.T) {
	r := samples.Limited()
	r.Power = append(r.Power, api.Phase{From: 77})[:1]
	mark := api.Event{Kind: api.BallEvent, Side: 77}
	l := append(samples.Log("TOSS 1 BAT\nOPEN 1 2\nKEEPER 3\nBOWL 1\nBALL F@3\nBALL b1\nBALL .\nBALL .\nBOWL 2\nBALL 2\n"), mark, mark)
	marks := slices.Clone(l)
	w := append(make([]int, 9), 77)
	w[1] = 5
	for range 2 {
		for k, f := range []list{of(0), wheel.ByOver, wheel.Worm} {
			got := must(t, f, r, l[:10], 0)
			if want := [][]int{{2, 0, 0, 4, 0, 0, 0, 0, 0}, {5, 2}, {5, 7}}[k]; !slices.Equal(got, want) {
				t.Fatalf("function %d: %d, want %d", k, got, want)
			}
			clear(got[:cap(got)])
		}
		m, e := wheel.Mirror(w[:9])
		if !slices.Equal(m, []int{0, 0, 0, 0, 0, 0, 0, 0, 5}) || e != api.OK {
			t.Fatalf("Mirror: %d, %d", m, e)
		}
		clear(m[:cap(m)])
	}
	power := append(samples.Limited().Power, api.Phase{From: 77})
	if !slices.Equal(l, marks) || !slices.Equal(r.Power[:2], power) || !slices.Equal(w, []int{0, 5, 0, 0, 0, 0, 0, 0, 0, 77}) {
		t.Errorf("the arguments became %+v, %+v and %d", l, r.Power[:2], w)
	}
}
