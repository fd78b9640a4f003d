package bowling_test

import (
	"math/rand"
	"slices"
	"strconv"
	"strings"
	"testing"

	"scorebook/api"
	"scorebook/bowling"
	"scorebook/log"
	"scorebook/samples"
	"scorebook/tally"
)

// P25.4

// tricks does what the document says of the hat-tricks of an accepted log: it looks back from each delivery at those of the same bowler.
func tricks(r api.Rules, l []api.Event) []api.Mark {
	played, _, _, _ := log.Play(r, l)
	sides := tally.Sides(l)
	var marks []api.Mark
	for i, p := range played {
		n := 0
		for _, q := range slices.Backward(played[:i+1]) {
			if q.Bowler != p.Bowler || sides[q.Innings] != sides[p.Innings] {
				continue
			}
			if !q.Credit.Wicket {
				break
			}
			n++
		}
		if n >= 3 {
			marks = append(marks, api.Mark{Kind: 5, Player: p.Bowler, Value: n, Event: p.Event})
		}
	}
	return marks
}

// forEachLogOfWickets calls f with random logs of accepted events in which few bowlers take many wickets.
func forEachLogOfWickets(seed int64, f func(r api.Rules, l []api.Event)) {
	s, r := rand.New(rand.NewSource(seed)), samples.Big()
	symbols := samples.Symbols()
	pick := func(n int) int {
		switch {
		case n == len(symbols) && s.Intn(2) == 0:
			return slices.Index(symbols, "./B1")
		case n == r.Side && s.Intn(2) == 0:
			return s.Intn(3)
		}
		return s.Intn(n)
	}
	for range 60 {
		f(r, samples.Play(pick, r, s.Intn(500)))
	}
}

func TestHatTricks(t *testing.T) {
	met := map[string]int{}
	check := func(r api.Rules, l []api.Event) {
		want := tricks(r, l)
		got, e := bowling.HatTricks(r, l)
		if !slices.Equal(got, want) || e != api.OK {
			t.Fatalf("%s, %+v: %+v, %d, want %+v", r.Name, l, got, e, want)
		}
		for i, m := range want {
			count(met, map[string]bool{"three": m.Value == 3, "four": m.Value == 4, "another one": i > 0 && m.Value == 3, "an innings later": len(tally.Splits(l[:m.Event])) > 1})
		}
	}
	forEachLog(4, check)
	forEachLogOfWickets(5, check)
	if len(met) != 4 || met["three"] < 50 {
		t.Errorf("met: %v", met)
	}
}

const (
	firstInnings = "TOSS 1 BAT\n" + nextInnings
	nextInnings  = "OPEN 1 2\nKEEPER 11\nBOWL 1\n"
)

// play returns lines of an innings: of deliveries, each with a batter who comes in if a wicket falls, and of other events, which have a blank.
func play(parts ...string) string {
	src, next := "", 3
	for _, s := range parts {
		switch {
		case strings.Contains(s, " "):
			src += s + "\n"
		case strings.Contains(s, "/"):
			src += "BALL " + s + "\nENTER " + strconv.Itoa(next) + "\n"
			next++
		default:
			src += "BALL " + s + "\n"
		}
	}
	return src
}

// tricky is a log with its hat-tricks.
type tricky struct {
	name string
	src  string
	want []api.Mark
}

func mark(player, value, event int) api.Mark {
	return api.Mark{Kind: bowling.HatTrick, Player: player, Value: value, Event: event}
}

// check checks the hat-tricks of a log.
func (x tricky) check(t *testing.T) {
	t.Helper()
	if got, e := bowling.HatTricks(samples.Big(), samples.Log(x.src)); !slices.Equal(got, x.want) || e != api.OK {
		t.Errorf("%s: %+v, %d, want %+v", x.name, got, e, x.want)
	}
}

func TestHatTricksOfAnInnings(t *testing.T) {
	const out = "./B1"
	for _, x := range []tricky{
		{"two wickets", play(out, out), nil},
		{"three wickets", play(out, out, out), []api.Mark{mark(1, 3, 8)}},
		{"four wickets", play(out, out, out, out), []api.Mark{mark(1, 3, 8), mark(1, 4, 10)}},
		{"all ways that are the bowler's", play(out, "./L1", "./C1(2)", "w/S1(11)", "w/H1"), []api.Mark{mark(1, 3, 8), mark(1, 4, 10), mark(1, 5, 12)}},
		{"a dot between", play(out, out, ".", out), nil},
		{"a wide between", play(out, out, "w", out), nil},
		{"a no-ball between", play(out, "n.", out, out), nil},
		{"a run out between", play(out, out, "./R1(2)", out), nil},
		{"a run out at last", play(out, out, "./R1(2)"), nil},
		{"a run out at first", play("./R1(2)", out, out), nil},
		{"obstructing between", play(out, "./O1", out, out), nil},
		{"other events between", play(out, "FIELD 0", "RETIRE 2 HURT", "ENTER 9", "PENALTY 1 5", out, "SUB 5 ON", out), []api.Mark{mark(1, 3, 13)}},
		{"timed out and retired", play("BALL ./B1", "TIMEOUT 10", "ENTER 3", "BALL ./B1", "ENTER 4", "RETIRE 4 OUT", "ENTER 5"), nil},
		{"over two overs", play(".", ".", out, out, "BOWL 2", ".", "1", "w", "2", ".", "BOWL 1", out), []api.Mark{mark(1, 3, 17)}},
		{"two bowlers in one over", play(out, "BOWL 2", out, "BOWL 3", out), nil},
		{"two bowlers by turns", play(".", ".", out, out, "BOWL 2", ".", ".", out, out, "BOWL 1", out, ".", ".", ".", "BOWL 2", out), []api.Mark{mark(1, 3, 18), mark(2, 3, 24)}},
		{"two hat-tricks", play(out, out, out, ".", "BOWL 2", ".", ".", ".", ".", "BOWL 1", out, out, out), []api.Mark{mark(1, 3, 8), mark(1, 3, 21)}},
		{"the bowler who took a wicket before comes back in the over", play(out, out, "BOWL 2", ".", "BOWL 1", out), []api.Mark{mark(1, 3, 11)}},
	} {
		x.src = firstInnings + x.src
		x.check(t)
	}
}

func TestHatTricksOverInnings(t *testing.T) {
	const out, end, endOther = "./B1", "DECLARE 1\n" + nextInnings, "DECLARE 2\n" + nextInnings
	for _, x := range []tricky{
		{"the bowler of the other side", play(out, out) + end + play(out, out), nil},
		{"the same bowler in the third innings", play(out, out) + end + play(out, out) + endOther + play(out), []api.Mark{mark(1, 3, 20)}},
		{"the bowlers of both sides", play(out, out) + end + play(out, out) + endOther + play(out) + end + play(out), []api.Mark{mark(1, 3, 20), mark(1, 3, 26)}},
		{"a delivery without a wicket in the third innings", play(out, out) + end + play(".") + endOther + play(".", out), nil},
		{"an innings without a delivery", play(out, out) + end + endOther + play(out), []api.Mark{mark(1, 3, 16)}},
		{"the follow-on", play("2", out) + end + play(out, out) + "DECLARE 2\nFOLLOW 1 YES\n" + nextInnings + play(out), []api.Mark{mark(1, 3, 20)}},
		{"the innings behind the follow-on", play("2", out) + end + play(out, out) + "DECLARE 2\nFOLLOW 1 YES\n" + nextInnings + play("F", ".") + endOther + play(out, out), []api.Mark{mark(1, 3, 28)}},
		{"no follow-on", play("2", out) + end + play(out, out) + "DECLARE 2\nFOLLOW 1 NO\n" + nextInnings + play(out, out), []api.Mark{mark(1, 3, 22)}},
	} {
		x.src = firstInnings + x.src
		x.check(t)
	}
}

func TestHatTricksErrors(t *testing.T) {
	for want, logs := range samples.Faulty() {
		for _, l := range logs {
			if h, e := bowling.HatTricks(samples.Long(), l); e != want || len(h) != 0 {
				t.Errorf("%d events: %+v, %d, want %d", len(l), h, e, want)
			}
		}
	}
	l := samples.Log("TOSS 1 BAT\nOPEN 1 2\nKEEPER 3\nBOWL 1\n" + play("./B1", "./B1", "BALL ./B1"))
	for want, r := range samples.Bad() {
		if h, e := bowling.HatTricks(r, l); e != want || len(h) != 0 {
			t.Errorf("%+v: %+v, %d", r, h, e)
		}
	}
	if h, e := bowling.HatTricks(samples.Limited(), append(l, api.Event{Kind: api.BallEvent})); e != api.ErrLaw || len(h) != 0 {
		t.Errorf("a refused event after a hat-trick: %+v, %d", h, e)
	}
	for _, l := range [][]api.Event{nil, l[:1], samples.Wides(api.MaxEvents)} {
		if h, e := bowling.HatTricks(samples.Long(), l); e != api.OK || len(h) != 0 {
			t.Errorf("%d events: %+v, %d", len(l), h, e)
		}
	}
}
