package log_test

import (
	"math"
	"math/rand"
	"reflect"
	"slices"
	"testing"

	"scorebook/api"
	"scorebook/delivery"
	"scorebook/log"
	"scorebook/match"
	"scorebook/samples"
)

// short are rules of a match of one over between sides of 2.
func short() api.Rules {
	return api.Rules{Name: "SHORT", Side: 2, Innings: 1, Overs: 1, Balls: 4, Wide: 1, NoBall: 1}
}

// limited are rules of a match of one innings a side, with free hits and a powerplay.
func limited() api.Rules {
	return api.Rules{Name: "LIMITED", Side: 3, Innings: 1, Overs: 3, Balls: 4, Quota: 2, Wide: 2, NoBall: 3, FreeHit: true, Reviews: 1, Outside: 1, Power: []api.Phase{{From: 1, To: 1, Outside: 0}}}
}

// long are rules of a match of two innings a side, without a limit of overs and with the follow-on.
func long() api.Rules {
	return api.Rules{Name: "LONG", Side: 3, Innings: 2, Balls: 5, Wide: 1, NoBall: 1, NewBall: 1, FollowOn: 3, Reviews: 2}
}

func ruleSets() []api.Rules { return []api.Rules{short(), limited(), long()} }

// replay does what the document says of Replay: it returns the state at the beginning and after each accepted event, the index of the refused one, and the law.
func replay(t *testing.T, r api.Rules, l []api.Event) (states []api.Match, refused int, law api.Law) {
	t.Helper()
	m, e := match.New(r)
	if e != api.OK {
		t.Fatal(e)
	}
	states = append(states, m)
	for i := 0; i < len(l); i++ {
		if i == 4000 {
			return states, i, api.LawEnded
		}
		m, law = match.Step(m, l[i])
		if law != api.Legal {
			return states, i, law
		}
		states = append(states, m)
	}
	return states, -1, api.Legal
}

// spoiled returns a log with another event somewhere, which may be refused.
func spoiled(s *rand.Rand, l []api.Event) []api.Event {
	odd := []api.Event{
		{}, {Kind: 99}, {Kind: api.TossEvent, Side: 1}, {Kind: api.TossEvent, Side: 3}, {Kind: api.OpenEvent, Player: 1, Other: 2}, {Kind: api.BowlEvent, Player: -1},
		{Kind: api.BallEvent}, {Kind: api.EnterEvent, Player: 1}, {Kind: api.KeeperEvent, Player: 11}, {Kind: api.PenaltyEvent, Side: 1, Runs: 7}, {Kind: api.StopEvent},
	}
	return slices.Insert(slices.Clone(l), s.Intn(len(l)+1), odd[s.Intn(len(odd))])
}

// forEachLog calls f with random logs, of which about half have an event that does not belong there.
func forEachLog(seed int64, f func(r api.Rules, l []api.Event)) {
	s := rand.New(rand.NewSource(seed))
	for range 60 {
		for _, r := range ruleSets() {
			l := samples.Play(s.Intn, r, s.Intn(600))
			if s.Intn(2) == 0 {
				l = spoiled(s, l)
			}
			f(r, l)
		}
	}
}

// P17.1

func TestReplay(t *testing.T) {
	laws, stages := map[api.Law]int{}, map[api.Stage]int{}
	forEachLog(1, func(r api.Rules, l []api.Event) {
		states, wantAt, wantLaw := replay(t, r, l)
		want := states[len(states)-1]
		m, at, law := log.Replay(r, l)
		if !match.Same(m, want) || at != wantAt || law != wantLaw {
			t.Fatalf("%s, %+v: %+v, refused %d by law %d, want %+v, %d, %d", r.Name, l, m, at, law, want, wantAt, wantLaw)
		}
		laws[law]++
		stages[m.Stage]++
	})
	if laws[api.Legal] < 20 || laws[api.LawPhase] < 20 || laws[api.LawEnded] == 0 || len(laws) < 5 || len(stages) < 4 {
		t.Errorf("met: laws %v, stages %v", laws, stages)
	}
}

func TestReplayTells(t *testing.T) {
	won := "TOSS 1 BAT\nOPEN 1 2\nKEEPER 2\nBOWL 1\nBALL 1\nBALL ./B1\nOPEN 2 1\nKEEPER 1\nBOWL 2\nBALL w\nBALL F\n"
	for _, x := range []struct {
		src  string
		at   int
		law  api.Law
		text string
	}{
		{"", -1, api.Legal, ""},
		{"TOSS 1 BAT\nOPEN 1 2\nBOWL 2\nBALL 1\n", 3, api.LawKeeper, "1 0/0 0.0"},
		{"TOSS 1 BAT\nOPEN 1 2\nKEEPER 2\nBALL 1\nBOWL 1\n", 3, api.LawBowler, "1 0/0 0.0"},
		{"OPEN 1 2\n", 0, api.LawPhase, ""},
		{won, -1, api.Legal, "1 1/1 0.2; 2 5/0 0.1; SIDE 2 WON BY 1 WICKETS"},
		{won + "BALL .\nSTOP\n", 11, api.LawEnded, "1 1/1 0.2; 2 5/0 0.1; SIDE 2 WON BY 1 WICKETS"},
		{"TOSS 2 FIELD\nSTOP\nSTOP\n", 2, api.LawEnded, "NO RESULT"},
	} {
		m, at, law := log.Replay(short(), samples.Log(x.src))
		if at != x.at || law != x.law || match.Text(m) != x.text {
			t.Errorf("%q: %q, refused %d by law %d", x.src, match.Text(m), at, law)
		}
	}
}

func TestReplayOfNothing(t *testing.T) {
	for _, l := range [][]api.Event{nil, {}} {
		want, _ := match.New(limited())
		if m, at, law := log.Replay(limited(), l); !match.Same(m, want) || at != -1 || law != api.Legal {
			t.Errorf("no events: %+v, refused %d by law %d", m, at, law)
		}
	}
}

func TestReplayStopsAtTheLimit(t *testing.T) {
	l := samples.Wides(api.MaxEvents)
	full, at, law := log.Replay(long(), l)
	if at != -1 || law != api.Legal || full.Innings[0].Runs != api.MaxEvents-4 {
		t.Fatalf("%d events: refused %d by law %d, %d runs", len(l), at, law, full.Innings[0].Runs)
	}
	// Whatever comes then is refused in the same way.
	for _, e := range []api.Event{l[4], {Kind: api.StopEvent}, {Kind: api.TossEvent, Side: 1}, {}, {Kind: 200, Side: -9}} {
		m, at, law := log.Replay(long(), append(slices.Clip(l), e, e))
		if at != api.MaxEvents || law != api.LawEnded || !match.Same(m, full) {
			t.Errorf("%+v: refused %d by law %d", e, at, law)
		}
	}
	// What is refused before is refused for its own reason.
	l = append(slices.Clip(l), l[4])
	l[api.MaxEvents-1] = api.Event{Kind: api.EnterEvent, Player: 3}
	if m, at, law := log.Replay(long(), l); at != api.MaxEvents-1 || law != api.LawCrease || m.Innings[0].Runs != api.MaxEvents-5 {
		t.Errorf("the last event but one: refused %d by law %d", at, law)
	}
}

func TestReplayWithBadRules(t *testing.T) {
	bad := samples.Bad()
	bad[-1] = api.Rules{}
	for _, r := range bad {
		for _, l := range [][]api.Event{nil, samples.Log("TOSS 1 BAT\nOPEN 1 2\n"), make([]api.Event, api.MaxEvents+1)} {
			m, at, law := log.Replay(r, l)
			if !reflect.DeepEqual(m, api.Match{}) || at != 0 || law != api.LawPhase {
				t.Errorf("%+v, %d events: %+v, refused %d by law %d", r, len(l), m, at, law)
			}
			p, m, at, law := log.Play(r, l)
			if len(p) != 0 || !reflect.DeepEqual(m, api.Match{}) || at != 0 || law != api.LawPhase {
				t.Errorf("%+v, %d events: %+v, %+v, refused %d by law %d", r, len(l), p, m, at, law)
			}
			if b := log.Balls(r, l); len(b) != 0 {
				t.Errorf("%+v, %d events: the balls %+v", r, len(l), b)
			}
		}
	}
}

// P17.2

func TestAt(t *testing.T) {
	met := map[api.Errno]int{}
	forEachLog(2, func(r api.Rules, l []api.Event) {
		states, _, _ := replay(t, r, l)
		for n := -1; n <= len(l)+1; n++ {
			want, wantErr := api.Match{}, api.OK
			switch {
			case n < 0 || n > len(l):
				wantErr = api.ErrRange
			case n >= len(states):
				wantErr = api.ErrLaw
			default:
				want = states[n]
			}
			if n%7 > 0 && n < len(l)-3 && n > 3 {
				continue
			}
			m, e := log.At(r, l, n)
			if e != wantErr || !match.Same(m, want) || e != api.OK && !reflect.DeepEqual(m, api.Match{}) {
				t.Fatalf("%s, %d of %d events: %+v, %d, want %+v, %d", r.Name, n, len(l), m, e, want, wantErr)
			}
			met[e]++
		}
	})
	if met[api.OK] < 100 || met[api.ErrLaw] < 100 || met[api.ErrRange] < 100 {
		t.Errorf("met: %v", met)
	}
}

func TestAtErrors(t *testing.T) {
	refused := samples.Log("TOSS 1 BAT\nBALL .\n")
	many := samples.Wides(api.MaxEvents + 2)
	for _, x := range []struct {
		name string
		l    []api.Event
		n    int
		want api.Errno
	}{
		{"none of none", nil, 0, api.OK},
		{"one of none", nil, 1, api.ErrRange},
		{"below the range", refused, -1, api.ErrRange},
		{"far below the range", refused, math.MinInt, api.ErrRange},
		{"before the refused one", refused, 1, api.OK},
		{"the refused one", refused, 2, api.ErrLaw},
		{"above the range", refused, 3, api.ErrRange},
		{"far above the range", refused, math.MaxInt, api.ErrRange},
		{"up to the limit", many, api.MaxEvents, api.OK},
		{"beyond the limit", many, api.MaxEvents + 1, api.ErrLaw},
		{"all", many, len(many), api.ErrLaw},
	} {
		m, e := log.At(long(), x.l, x.n)
		if e != x.want || e != api.OK && !reflect.DeepEqual(m, api.Match{}) {
			t.Errorf("%s: %+v, %d", x.name, m, e)
		}
	}
	// The rules are checked first, then the range.
	for want, r := range samples.Bad() {
		for _, n := range []int{-1, 0, 1, 2, 3} {
			if m, e := log.At(r, refused, n); e != want || !reflect.DeepEqual(m, api.Match{}) {
				t.Errorf("%+v, %d events: %+v, %d", r, n, m, e)
			}
		}
	}
}

// P17.3

func TestCheck(t *testing.T) {
	met := map[api.Errno]int{}
	forEachLog(3, func(r api.Rules, l []api.Event) {
		_, at, _ := replay(t, r, l)
		want := api.OK
		if at >= 0 {
			want = api.ErrLaw
		}
		if e := log.Check(r, l); e != want {
			t.Fatalf("%s, %+v: %d, want %d", r.Name, l, e, want)
		}
		met[want]++
	})
	if met[api.OK] < 20 || met[api.ErrLaw] < 20 {
		t.Errorf("met: %v", met)
	}
}

func TestCheckErrors(t *testing.T) {
	refused := samples.Log("TOSS 1 BAT\nBALL .\n")
	for _, x := range []struct {
		name string
		l    []api.Event
		want api.Errno
	}{
		{"no events", nil, api.OK},
		{"a refused one", refused, api.ErrLaw},
		{"an event that is none", []api.Event{{}}, api.ErrLaw},
		{"as many as there may be", samples.Wides(api.MaxEvents), api.OK},
		{"too many", samples.Wides(api.MaxEvents + 1), api.ErrLimit},
		{"too many, of which the first is refused", make([]api.Event, api.MaxEvents+1), api.ErrLimit},
		{"as many as there may be, of which the first is refused", make([]api.Event, api.MaxEvents), api.ErrLaw},
	} {
		if e := log.Check(long(), x.l); e != x.want {
			t.Errorf("%s: %d, want %d", x.name, e, x.want)
		}
	}
	for want, r := range samples.Bad() {
		for _, l := range [][]api.Event{nil, refused, make([]api.Event, api.MaxEvents+1)} {
			if e := log.Check(r, l); e != want {
				t.Errorf("%+v, %d events: %d", r, len(l), e)
			}
		}
	}
}

// P17.4

// deliveries does what the document says of Play, from the states before and after each event.
func deliveries(r api.Rules, l []api.Event, states []api.Match) []api.Delivered {
	var out []api.Delivered
	for i := 0; i+1 < len(states); i++ {
		if l[i].Kind != api.BallEvent {
			continue
		}
		n := len(states[i].Innings) - 1
		before, after := states[i].Innings[n], states[i+1].Innings[n]
		x := api.Delivered{Event: i, Innings: n, Over: before.Complete, Ball: before.InOver}
		x.Bowler, x.Striker, x.Partner, x.Free = before.Bowler, before.Striker, before.Other, before.FreeHit
		x.Delivery, x.Credit = l[i].Ball, delivery.Credit(r, l[i].Ball)
		x.Runs, x.Wickets = after.Runs, after.Wickets
		out = append(out, x)
	}
	return out
}

func TestPlay(t *testing.T) {
	met := map[string]int{}
	forEachLog(4, func(r api.Rules, l []api.Event) {
		states, wantAt, wantLaw := replay(t, r, l)
		want := deliveries(r, l, states)
		p, m, at, law := log.Play(r, l)
		if !slices.Equal(p, want) || !match.Same(m, states[len(states)-1]) || at != wantAt || law != wantLaw {
			t.Fatalf("%s, %+v: %+v, %+v, refused %d by law %d", r.Name, l, p, m, at, law)
		}
		for _, x := range want {
			count(met, map[string]bool{
				"free hit": x.Free, "a later innings": x.Innings > 0, "the last innings": x.Innings == 3, "a later over": x.Over > 0, "a later ball": x.Ball > 0,
				"a wicket": x.Wickets > 0, "another bowler": x.Bowler > 1, "another striker": x.Striker > 2, "another partner": x.Partner > 2,
			})
		}
	})
	if len(met) != 9 {
		t.Errorf("met: %v", met)
	}
}

// count counts the names of what holds.
func count(met map[string]int, holds map[string]bool) {
	for name, ok := range holds {
		if ok {
			met[name]++
		}
	}
}

func TestPlayTells(t *testing.T) {
	r := limited()
	l := samples.Log("TOSS 2 FIELD\nOPEN 1 2\nKEEPER 3\nBOWL 1\nBALL n1\nFIELD 0\nBALL w\nBALL 2\nBALL 1\nBALL .\nBALL ./B1\nREVIEW 1 LOST\nENTER 3\nBOWL 2\nBALL F\nBALL ./C1(1)\nOPEN 2 3\nKEEPER 1\nBOWL 2\nBALL b2\nBALL .\nSTOP\nBALL .\n")
	p, m, at, law := log.Play(r, l)
	want := []struct {
		event, innings, over, ball, bowler, striker, partner int
		free                                                 bool
		credit                                               api.Credit
		runs, wickets                                        int
	}{
		{4, 0, 0, 0, 1, 1, 2, false, api.Credit{Batter: 1, NoBalls: 3, Bowler: 4, Faced: true, Swap: true}, 4, 0},
		{6, 0, 0, 0, 1, 2, 1, true, api.Credit{Wides: 2, Bowler: 2}, 6, 0},
		{7, 0, 0, 0, 1, 2, 1, true, api.Credit{Batter: 2, Bowler: 2, Counts: true, Faced: true}, 8, 0},
		{8, 0, 0, 1, 1, 2, 1, false, api.Credit{Batter: 1, Bowler: 1, Counts: true, Faced: true, Swap: true}, 9, 0},
		{9, 0, 0, 2, 1, 1, 2, false, api.Credit{Counts: true, Faced: true}, 9, 0},
		{10, 0, 0, 3, 1, 1, 2, false, api.Credit{Counts: true, Faced: true, Wicket: true}, 9, 1},
		{14, 0, 1, 0, 2, 2, 3, false, api.Credit{Batter: 4, Bowler: 4, Counts: true, Faced: true}, 13, 1},
		{15, 0, 1, 1, 2, 2, 3, false, api.Credit{Counts: true, Faced: true, Wicket: true}, 13, 2},
		{19, 1, 0, 0, 2, 2, 3, false, api.Credit{Byes: 2, Counts: true, Faced: true}, 2, 0},
		{20, 1, 0, 1, 2, 2, 3, false, api.Credit{Counts: true, Faced: true}, 2, 0},
	}
	if len(p) != len(want) {
		t.Fatalf("%d deliveries: %+v", len(p), p)
	}
	for i, x := range want {
		d := api.Delivered{
			Event: x.event, Innings: x.innings, Over: x.over, Ball: x.ball, Bowler: x.bowler, Striker: x.striker, Partner: x.partner,
			Free: x.free, Delivery: l[x.event].Ball, Credit: x.credit, Runs: x.runs, Wickets: x.wickets,
		}
		if p[i] != d {
			t.Errorf("delivery %d: %+v, want %+v", i, p[i], d)
		}
	}
	if at != 22 || law != api.LawEnded || match.Text(m) != "1 13/2 1.2; 2 2/0 0.2; NO RESULT" {
		t.Errorf("%q, refused %d by law %d", match.Text(m), at, law)
	}
	// The example of the document.
	p, _, at, law = log.Play(short(), samples.Log("TOSS 1 BAT\nOPEN 1 2\nKEEPER 2\nBOWL 1\nBALL 1\n"))
	if at != -1 || law != api.Legal || len(p) != 1 || p[0].Event != 4 || p[0].Bowler != 1 || p[0].Striker != 1 || p[0].Partner != 2 || p[0].Runs != 1 {
		t.Errorf("%+v, refused %d by law %d", p, at, law)
	}
}

func TestBalls(t *testing.T) {
	forEachLog(5, func(r api.Rules, l []api.Event) {
		states, _, _ := replay(t, r, l)
		var want []api.Delivery
		for _, e := range l[:len(states)-1] {
			if e.Kind == api.BallEvent {
				want = append(want, e.Ball)
			}
		}
		if b := log.Balls(r, l); !slices.Equal(b, want) {
			t.Fatalf("%s, %+v: %+v", r.Name, l, b)
		}
	})
	if b := log.Balls(long(), samples.Wides(api.MaxEvents+9)); len(b) != api.MaxEvents-4 {
		t.Errorf("%d balls of a log that is too long", len(b))
	}
}

// P17.5

func TestAcceptedPart(t *testing.T) {
	forEachLog(6, func(r api.Rules, l []api.Event) {
		m, at, _ := log.Replay(r, l)
		if at < 0 {
			at = len(l)
		}
		part, none, law := log.Replay(r, l[:at])
		if none != -1 || law != api.Legal || !match.Same(part, m) {
			t.Fatalf("%s, %+v: the accepted part leads to %+v, refused %d by law %d", r.Name, l, part, none, law)
		}
		if end, e := log.At(r, l[:at], at); e != api.OK || !match.Same(end, m) {
			t.Fatalf("%s, %+v: At the end is %+v, %d", r.Name, l, end, e)
		}
		for n := at; n >= 0; n -= 1 + at/8 {
			if e := log.Check(r, l[:n]); e != api.OK {
				t.Fatalf("%s, %+v: the first %d events are refused", r.Name, l, n)
			}
		}
	})
}

// Arguments stay as they are, and results are new memory.

func TestMemory(t *testing.T) {
	r := limited()
	r.Power = append(r.Power, api.Phase{From: 77})[:1]
	l := append(samples.Log("TOSS 1 BAT\nOPEN 1 2\nKEEPER 3\nBOWL 1\nBALL 1\nBALL w\n"), api.Event{Kind: 77}, api.Event{Kind: 78})
	marks := slices.Clone(l)
	for _, n := range []int{0, 1, 2, 6, 7} {
		short := l[:n]
		a, _, _ := log.Replay(r, short)
		b, _, _ := log.Replay(r, short)
		at, _ := log.At(r, short, min(n, 6))
		p, c, _, _ := log.Play(r, short)
		q, d, _, _ := log.Play(r, short)
		balls := log.Balls(r, short)
		log.Check(r, short)
		for _, m := range []api.Match{b, at, c, d} {
			if !match.Same(m, a) {
				t.Fatalf("%d events: %+v and %+v", n, m, a)
			}
			scratch(m)
			if n >= 2 && match.Same(m, a) {
				t.Fatalf("%d events: the test changes nothing", n)
			}
		}
		clear(p[:cap(p)])
		clear(balls[:cap(balls)])
		again, _, _ := log.Replay(r, short)
		if !match.Same(a, again) || !slices.Equal(q, deliveriesOf(t, r, short)) {
			t.Errorf("%d events: memory is shared", n)
		}
	}
	want := append(limited().Power, api.Phase{From: 77})
	if !slices.Equal(l, marks) || !slices.Equal(r.Power[:2], want) {
		t.Errorf("the arguments became %+v and %+v", l, r.Power[:2])
	}
}

// deliveriesOf returns what the document says of Play of a log.
func deliveriesOf(t *testing.T, r api.Rules, l []api.Event) []api.Delivered {
	t.Helper()
	states, _, _ := replay(t, r, l)
	return deliveries(r, l, states)
}

// scratch overwrites the lists of a state.
func scratch(m api.Match) {
	for _, in := range m.Innings {
		clear(in.Batters)
		clear(in.Bowlers)
		clear(in.Before)
		clear(in.Bowled)
		clear(in.Subs)
	}
	clear(m.Innings)
	clear(m.Rules.Power)
}
