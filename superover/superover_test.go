package superover_test

import (
	"math"
	"math/rand"
	"reflect"
	"slices"
	"strings"
	"testing"

	"scorebook/api"
	"scorebook/log"
	"scorebook/match"
	"scorebook/rules"
	"scorebook/samples"
	"scorebook/superover"
)

// two are rules of a match between sides of 2, which are those of a super over but for the name, the overs and the powerplay.
func two() api.Rules {
	return api.Rules{Name: "TWO", Side: 2, Innings: 1, Overs: 2, Balls: 4, Quota: 1, Wide: 1, NoBall: 1, Power: []api.Phase{{From: 1, To: 1, Outside: 0}}}
}

// innings returns the lines of an innings of a side of 2 with some balls.
func innings(balls ...string) string {
	return "OPEN 1 2\nKEEPER 2\nBOWL 1\nBALL " + strings.Join(balls, "\nBALL ") + "\n"
}

// Texts of super overs between sides of 2.
var (
	tied       = innings("./B1") + innings("./B1")
	tiedOnRuns = innings("F", ".", "2", "1") + innings("S", ".", "1", "./B1")
	firstWins  = innings("2", "./B1") + innings("1", "./B1")
	secondWins = innings("1", "./B1") + innings("2")
	unfinished = innings("1", "./B1") + innings("1")
	stopped    = innings("1", "./B1") + innings("1") + "STOP\n"
	refused    = unfinished + "ENTER 1\n"
)

// P18.1

func TestRules(t *testing.T) {
	for _, x := range []struct{ in, want api.Rules }{
		{
			api.Rules{Name: "BIG", Side: 11, Innings: 2, Overs: 0, Balls: 6, Wide: 2, NoBall: 3, FreeHit: true, NewBall: 80, FollowOn: 100, Reviews: 4, Outside: 9},
			api.Rules{Name: "SUPER", Side: 3, Innings: 1, Overs: 1, Balls: 6, Wide: 2, NoBall: 3, FreeHit: true, Reviews: 4, Outside: 9},
		},
		{
			api.Rules{Name: "SMALL", Side: 4, Innings: 1, Overs: 50, Balls: 8, Quota: 13, Wide: 5, NoBall: 4, NewBall: 7, Reviews: 9, Outside: 11, Power: []api.Phase{{From: 1, To: 6, Outside: 2}, {From: 8, To: 50, Outside: 4}}},
			api.Rules{Name: "SUPER", Side: 3, Innings: 1, Overs: 1, Balls: 8, Wide: 5, NoBall: 4, Reviews: 9, Outside: 11},
		},
		{
			api.Rules{Name: "THREE", Side: 3, Innings: 2, Overs: 1, Balls: 4, Quota: 1, Wide: 1, NoBall: 1, FollowOn: 1},
			api.Rules{Name: "SUPER", Side: 3, Innings: 1, Overs: 1, Balls: 4, Wide: 1, NoBall: 1},
		},
		{two(), api.Rules{Name: "SUPER", Side: 2, Innings: 1, Overs: 1, Balls: 4, Wide: 1, NoBall: 1}},
	} {
		r, e := superover.Rules(x.in)
		if e != api.OK || !rules.Same(r, x.want) || rules.Check(r) != api.OK {
			t.Errorf("Rules(%+v) = %+v, %d", x.in, r, e)
		}
		again, e := superover.Rules(r)
		if e != api.OK || !rules.Same(again, r) {
			t.Errorf("Rules(%+v) = %+v, %d", r, again, e)
		}
	}
	for want, r := range samples.Bad() {
		if got, e := superover.Rules(r); e != want || !reflect.DeepEqual(got, api.Rules{}) {
			t.Errorf("Rules(%+v) = %+v, %d", r, got, e)
		}
	}
}

// P18.2

// ended returns the state at the end of a match.
func ended(t *testing.T, r api.Rules, src string) api.Match {
	t.Helper()
	m, at, law := log.Replay(r, samples.Log(src))
	if at != -1 || law != api.Legal || m.Stage != api.Finished {
		t.Fatalf("%q: refused %d by law %d, stage %d", src, at, law, m.Stage)
	}
	return m
}

func TestFirst(t *testing.T) {
	test := two()
	test.Innings, test.Overs, test.Quota, test.FollowOn, test.Power = 2, 0, 0, 1, nil
	nought := innings("./B1")
	for _, x := range []struct {
		name string
		m    api.Match
		want int
	}{
		{"side 1 first", ended(t, two(), "TOSS 1 BAT\n"+tied), 2},
		{"side 2 first", ended(t, two(), "TOSS 1 FIELD\n"+tied), 1},
		{"side 2 first, on runs", ended(t, two(), "TOSS 2 BAT\n"+innings("2", "./B1")+innings("1", "1", "./B1")), 1},
		{"two innings", ended(t, test, "TOSS 1 BAT\n"+nought+nought+nought+nought), 2},
		{"two innings, not enforced", ended(t, test, "TOSS 1 BAT\n"+innings("2", "./B1")+nought+"FOLLOW 1 NO\n"+nought+innings("2", "./B1")), 2},
		{"two innings, enforced", ended(t, test, "TOSS 1 BAT\n"+innings("2", "./B1")+nought+"FOLLOW 1 YES\n"+innings("2", "./B1")+nought), 1},
	} {
		before := match.Clone(x.m)
		if x.m.Result.Win != api.Tied {
			t.Errorf("%s: not tied", x.name)
		}
		if side, e := superover.First(x.m); side != x.want || e != api.OK || !match.Same(x.m, before) {
			t.Errorf("%s: %d, %d", x.name, side, e)
		}
	}
}

func TestFirstErrors(t *testing.T) {
	good := ended(t, two(), "TOSS 1 BAT\n"+tied)
	change := func(f func(m *api.Match)) api.Match {
		m := match.Clone(good)
		f(&m)
		return m
	}
	states := map[string]api.Match{
		"nothing":           {},
		"not valid":         change(func(m *api.Match) { m.Penalty[1] = -1 }),
		"bad rules":         change(func(m *api.Match) { m.Rules.Name = "" }),
		"no innings":        change(func(m *api.Match) { m.Innings = nil }),
		"nobody bats first": change(func(m *api.Match) { m.Innings, m.First = nil, 0 }),
		"before an innings": change(func(m *api.Match) { m.Stage, m.Innings = api.BeforeInnings, m.Innings[:1] }),
		"in play":           change(func(m *api.Match) { m.Stage, m.Innings[1].Ending = api.InPlay, api.NotEnded }),
		"in a choice":       change(func(m *api.Match) { m.Stage, m.Rules.Innings = api.Choice, 2 }),
		"no stage":          change(func(m *api.Match) { m.Stage = 0 }),
		"side 1 won":        ended(t, two(), "TOSS 1 BAT\n"+firstWins),
		"side 2 won":        ended(t, two(), "TOSS 1 BAT\n"+secondWins),
		"stopped":           ended(t, two(), "TOSS 1 BAT\n"+stopped),
	}
	for win := range api.NoResult + 2 {
		if win != api.Tied {
			states["another result "+string(rune('0'+win))] = change(func(m *api.Match) { m.Result.Win = win })
		}
	}
	for name, m := range states {
		if side, e := superover.First(m); side != 0 || e != api.ErrState {
			t.Errorf("%s: %d, %d", name, side, e)
		}
	}
	for _, name := range []string{"no innings", "before an innings", "in play", "in a choice"} {
		if !match.Valid(states[name]) {
			t.Errorf("%s: the state is not valid", name)
		}
	}
}

// P18.3

// replay does what the document says of Replay, for rules and a side without an error.
func replay(t *testing.T, r api.Rules, first int, l []api.Event) (api.Match, int, api.Law) {
	t.Helper()
	short := api.Rules{Name: "SUPER", Side: min(3, r.Side), Innings: 1, Overs: 1, Balls: r.Balls, Wide: r.Wide, NoBall: r.NoBall, FreeHit: r.FreeHit, Reviews: r.Reviews, Outside: r.Outside}
	m, e := match.Started(short, first)
	if e != api.OK {
		t.Fatal(e)
	}
	for i := 0; i < len(l); i++ {
		next, law := match.Step(m, l[i])
		if i == 4000 {
			law = api.LawEnded
		}
		if law != api.Legal {
			return m, i, law
		}
		m = next
	}
	return m, -1, api.Legal
}

// ruleSets returns rules of all sorts, without an error.
func ruleSets(t *testing.T) []api.Rules {
	t.Helper()
	l := []api.Rules{two()}
	for _, name := range []string{"TEST", "ONEDAY", "TWENTY"} {
		r, e := rules.Standard(name)
		if e != api.OK {
			t.Fatal(e)
		}
		l = append(l, r)
	}
	return l
}

// randomLog returns events that mostly fit a super over of a side of 2 or 3.
func randomLog(t *testing.T, s *rand.Rand) []api.Event {
	t.Helper()
	balls := []string{".", "1", "2", "F", "S", "w", "n1", "b1", "./B1", "./B1", "./C1(1)", "./L1", "."}
	var b strings.Builder
	for range 2 + s.Intn(10)/9 {
		b.WriteString("OPEN 1 2\nKEEPER 2\nBOWL 1\n")
		for range s.Intn(9) {
			b.WriteString("BALL " + balls[s.Intn(len(balls))] + "\n")
			if s.Intn(6) == 0 {
				b.WriteString([]string{"ENTER 3\n", "ENTER 3\n", "ENTER 3\n", "FIELD 0\n", "REVIEW 2 LOST\n", "PENALTY 1 5\n", "TOSS 1 BAT\n", "DECLARE 1\n", "OPEN 2 4\n", "STOP\n"}[s.Intn(10)])
			}
		}
	}
	return samples.Log(b.String())
}

func TestReplay(t *testing.T) {
	s := rand.New(rand.NewSource(1))
	laws, stages := map[api.Law]int{}, map[api.Stage]int{}
	for range 300 {
		for _, r := range ruleSets(t) {
			first, l := 1+s.Intn(2), randomLog(t, s)
			// Up to an event that is refused, and with it.
			_, n, _ := replay(t, r, first, l)
			if n < 0 || s.Intn(3) == 0 {
				n = s.Intn(len(l) + 1)
			}
			for _, l := range [][]api.Event{l, l[:n]} {
				want, wantAt, wantLaw := replay(t, r, first, l)
				m, at, law := superover.Replay(r, first, l)
				if !match.Same(m, want) || at != wantAt || law != wantLaw {
					t.Fatalf("%s, side %d, %+v: %+v, refused %d by law %d", r.Name, first, l, m, at, law)
				}
				laws[law]++
				stages[m.Stage]++
			}
		}
	}
	if laws[api.Legal] < 100 || len(laws) < 6 || stages[api.Finished] < 10 || stages[api.InPlay] < 10 || stages[api.BeforeInnings] < 10 {
		t.Errorf("met: laws %v, stages %v", laws, stages)
	}
}

func TestReplayTells(t *testing.T) {
	eleven, e := rules.Standard("TWENTY")
	if e != api.OK {
		t.Fatal(e)
	}
	three := two()
	three.Side, three.Outside = 3, 1
	// A side of the super over has at most three players, so it is all out after two wickets at the latest.
	for _, x := range []struct {
		r     api.Rules
		first int
		src   string
		at    int
		law   api.Law
		text  string
	}{
		{two(), 1, "", -1, api.Legal, ""},
		{two(), 1, tied, -1, api.Legal, "1 0/1 0.1; 2 0/1 0.1; TIED"},
		{two(), 2, tied, -1, api.Legal, "2 0/1 0.1; 1 0/1 0.1; TIED"},
		{two(), 1, tiedOnRuns, -1, api.Legal, "1 7/0 1.0; 2 7/1 1.0; TIED"},
		{two(), 1, firstWins, -1, api.Legal, "1 2/1 0.2; 2 1/1 0.2; SIDE 1 WON BY 1 RUNS"},
		{two(), 2, secondWins, -1, api.Legal, "2 1/1 0.2; 1 2/0 0.1; SIDE 1 WON BY 1 WICKETS"},
		{two(), 2, stopped, -1, api.Legal, "2 1/1 0.2; 1 1/0 0.1; NO RESULT"},
		{two(), 1, tied + "STOP\n", 8, api.LawEnded, "1 0/1 0.1; 2 0/1 0.1; TIED"},
		{two(), 1, "TOSS 1 BAT\n" + tied, 0, api.LawPhase, ""},
		{two(), 1, "OPEN 1 3\n", 0, api.LawPlayer, ""},
		{eleven, 1, "OPEN 1 2\nKEEPER 2\nBOWL 4\n", 2, api.LawPlayer, "1 0/0 0.0"},
		{eleven, 1, innings("./B1") + "ENTER 3\nBALL ./B1\nOPEN 1 2\n", -1, api.Legal, "1 0/2 0.2; 2 0/0 0.0"},
		{eleven, 1, innings(".", ".", ".", ".", ".", "1") + "OPEN 1 2\n", -1, api.Legal, "1 1/0 1.0; 2 0/0 0.0"},
		// There is no powerplay in which nobody may be outside the circle.
		{three, 1, "OPEN 1 2\nKEEPER 2\nFIELD 1\nBOWL 1\nBALL .\n", -1, api.Legal, "1 0/0 0.1"},
	} {
		m, at, law := superover.Replay(x.r, x.first, samples.Log(x.src))
		if at != x.at || law != x.law || match.Text(m) != x.text {
			t.Errorf("%q: %q, refused %d by law %d", x.src, match.Text(m), at, law)
		}
	}
}

func TestReplayErrors(t *testing.T) {
	l := samples.Log(tied)
	check := func(r api.Rules, first int, l []api.Event) {
		t.Helper()
		if m, at, law := superover.Replay(r, first, l); !reflect.DeepEqual(m, api.Match{}) || at != 0 || law != api.LawPhase {
			t.Errorf("%+v, side %d: %+v, refused %d by law %d", r, first, m, at, law)
		}
	}
	for _, first := range []int{math.MinInt, -1, 0, 3, math.MaxInt} {
		check(two(), first, l)
		check(two(), first, nil)
	}
	for _, r := range samples.Bad() {
		check(r, 1, l)
		check(r, 3, nil)
	}
}

func TestReplayStopsAtTheLimit(t *testing.T) {
	l := samples.Log(innings("w"))
	for len(l) < api.MaxEvents+2 {
		l = append(l, l[3])
	}
	if m, at, law := superover.Replay(two(), 1, l[:api.MaxEvents]); at != -1 || law != api.Legal || m.Innings[0].Runs != api.MaxEvents-3 {
		t.Errorf("up to the limit: refused %d by law %d", at, law)
	}
	for _, e := range []api.Event{l[3], {Kind: api.StopEvent}, {}} {
		l[api.MaxEvents] = e
		if m, at, law := superover.Replay(two(), 1, l); at != api.MaxEvents || law != api.LawEnded || m.Innings[0].Runs != api.MaxEvents-3 {
			t.Errorf("%+v: refused %d by law %d", e, at, law)
		}
	}
}

// P18.4

// decide does what the document says of Decide.
func decide(t *testing.T, r api.Rules, first int, logs [][]api.Event) (int, int, api.Errno) {
	t.Helper()
	switch {
	case rules.Check(r) != api.OK:
		return 0, 0, rules.Check(r)
	case first < 1 || first > 2:
		return 0, 0, api.ErrRange
	case len(logs) > 8:
		return 0, 0, api.ErrLimit
	}
	for i, l := range logs {
		side := []int{first, 3 - first}[i%2]
		m, _, law := replay(t, r, side, l)
		switch {
		case law != api.Legal:
			return 0, 0, api.ErrLaw
		case m.Stage != api.Finished || m.Result.Win == api.NoResult:
			return 0, 0, api.ErrState
		case m.Result.Win == api.Tied:
			continue
		case len(logs) > i+1:
			return 0, 0, api.ErrArg
		}
		return m.Result.Side, i + 1, api.OK
	}
	return 0, 0, api.ErrNone
}

// logsOf returns the logs of texts.
func logsOf(t *testing.T, texts ...string) [][]api.Event {
	t.Helper()
	var l [][]api.Event
	for _, src := range texts {
		l = append(l, samples.Log(src))
	}
	return l
}

func TestDecide(t *testing.T) {
	s := rand.New(rand.NewSource(2))
	bad := samples.Bad()
	texts := []string{tied, tied, tied, tied, tied, tied, tiedOnRuns, tiedOnRuns, firstWins, secondWins, unfinished, stopped, refused, ""}
	met, winners, most := map[api.Errno]int{}, map[int]int{}, 0
	for range 3000 {
		r, first := two(), 1+s.Intn(2)
		switch s.Intn(20) {
		case 0:
			r = bad[[]api.Errno{api.ErrName, api.ErrArg, api.ErrConflict, api.ErrOrder}[s.Intn(4)]]
		case 1:
			first = s.Intn(7) - 2
		}
		var list []string
		for range s.Intn(10) {
			list = append(list, texts[s.Intn(len(texts))])
		}
		if s.Intn(2) == 0 && len(list) > 0 {
			list = append(slices.Repeat([]string{tied}, len(list)-1), list[0])
		}
		logs := logsOf(t, list...)
		winner, used, e := superover.Decide(r, first, logs)
		if wantWinner, wantUsed, want := decide(t, r, first, logs); winner != wantWinner || used != wantUsed || e != want {
			t.Fatalf("%+v, side %d, %q: %d, %d, %d, want %d, %d, %d", r, first, list, winner, used, e, wantWinner, wantUsed, want)
		}
		met[e]++
		winners[winner]++
		most = max(most, used)
	}
	for _, e := range []api.Errno{api.OK, api.ErrName, api.ErrArg, api.ErrConflict, api.ErrOrder, api.ErrRange, api.ErrLimit, api.ErrLaw, api.ErrState, api.ErrNone} {
		if met[e] < 10 {
			t.Errorf("error %d: met %d times", e, met[e])
		}
	}
	if winners[1] < 10 || winners[2] < 10 || most != superover.MaxTies {
		t.Errorf("winners %v, at most %d super overs", winners, most)
	}
}

func TestDecideTells(t *testing.T) {
	ties := func(n int, then ...string) []string { return append(slices.Repeat([]string{tied}, n), then...) }
	for _, x := range []struct {
		name         string
		first        int
		texts        []string
		winner, used int
		want         api.Errno
	}{
		{"the example", 1, []string{tied, secondWins}, 1, 2, api.OK},
		{"the first one", 1, []string{firstWins}, 1, 1, api.OK},
		{"the first one, side 2 first", 2, []string{firstWins}, 2, 1, api.OK},
		{"a chase", 1, []string{secondWins}, 2, 1, api.OK},
		{"the third one", 1, []string{tied, tiedOnRuns, firstWins}, 1, 3, api.OK},
		{"the last one", 1, ties(7, firstWins), 2, 8, api.OK},
		{"all tied", 1, ties(8), 0, 0, api.ErrNone},
		{"one tied", 2, ties(1), 0, 0, api.ErrNone},
		{"none", 1, nil, 0, 0, api.ErrNone},
		{"too many", 1, ties(9), 0, 0, api.ErrLimit},
		{"too many, and none is one", 1, make([]string, 9), 0, 0, api.ErrLimit},
		{"too many, after a winner", 1, append([]string{firstWins}, ties(8)...), 0, 0, api.ErrLimit},
		{"side 0", 0, ties(9), 0, 0, api.ErrRange},
		{"side 3", 3, []string{firstWins}, 0, 0, api.ErrRange},
		{"side -1", -1, nil, 0, 0, api.ErrRange},
		{"a refused event", 1, []string{refused}, 0, 0, api.ErrLaw},
		{"a refused event after a tie", 1, []string{tied, refused, firstWins}, 0, 0, api.ErrLaw},
		{"an event after the end", 1, []string{firstWins + "STOP\n"}, 0, 0, api.ErrLaw},
		{"an event after a tie", 1, []string{tied + "OPEN 1 2\n", firstWins}, 0, 0, api.ErrLaw},
		{"not finished", 1, []string{unfinished}, 0, 0, api.ErrState},
		{"no events", 1, []string{""}, 0, 0, api.ErrState},
		{"stopped", 1, []string{stopped}, 0, 0, api.ErrState},
		{"stopped before", 1, []string{"STOP\n", firstWins}, 0, 0, api.ErrState},
		{"stopped after a tie", 1, []string{tied, stopped, firstWins}, 0, 0, api.ErrState},
		{"a winner and another one", 1, []string{firstWins, firstWins}, 0, 0, api.ErrArg},
		{"a winner and a tie", 1, []string{tied, secondWins, tied}, 0, 0, api.ErrArg},
		{"a winner and a refused event", 1, []string{firstWins, refused}, 0, 0, api.ErrArg},
		{"a refused event and a winner and more", 1, []string{refused, firstWins, firstWins}, 0, 0, api.ErrLaw},
	} {
		winner, used, e := superover.Decide(two(), x.first, logsOf(t, x.texts...))
		if winner != x.winner || used != x.used || e != x.want {
			t.Errorf("%s: %d, %d, %d", x.name, winner, used, e)
		}
	}
	for want, r := range samples.Bad() {
		for _, first := range []int{0, 1} {
			if winner, used, e := superover.Decide(r, first, make([][]api.Event, 9)); winner != 0 || used != 0 || e != want {
				t.Errorf("%+v: %d, %d, %d", r, winner, used, e)
			}
		}
	}
	if superover.MaxTies != 8 {
		t.Errorf("MaxTies is %d", superover.MaxTies)
	}
}

// Arguments stay as they are, and results are new memory.

func TestMemory(t *testing.T) {
	r := two()
	r.Power = append(r.Power, api.Phase{From: 77})[:1]
	logs := append(logsOf(t, tied, secondWins), []api.Event{{Kind: 77}})
	marks := slices.Clone(logs)
	for i := range logs {
		logs[i] = append(logs[i], api.Event{Kind: 78})[:len(logs[i])]
		marks[i] = slices.Clone(logs[i][:len(logs[i])+1])
	}
	a, _, _ := superover.Replay(r, 1, logs[1])
	b, _, _ := superover.Replay(r, 1, logs[1])
	superover.Decide(r, 1, logs[:2])
	if !match.Same(a, b) || len(a.Innings) != 2 {
		t.Fatalf("%+v and %+v", a, b)
	}
	for _, in := range b.Innings {
		clear(in.Batters)
		clear(in.Bowlers)
		clear(in.Before)
		clear(in.Bowled)
		clear(in.Subs)
	}
	clear(b.Innings)
	if again, _, _ := superover.Replay(r, 1, logs[1]); !match.Same(a, again) {
		t.Error("memory is shared")
	}
	for i := range logs {
		if !slices.Equal(logs[i][:len(logs[i])+1], marks[i]) {
			t.Errorf("log %d became %+v", i, logs[i])
		}
	}
	if !slices.Equal(r.Power[:2], append(two().Power, api.Phase{From: 77})) {
		t.Errorf("the rules became %+v", r)
	}
}
