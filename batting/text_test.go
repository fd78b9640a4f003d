package batting_test

import (
	"fmt"
	"math"
	"math/rand"
	"strings"
	"testing"

	"scorebook/api"
	"scorebook/batting"
	"scorebook/dismissal"
	"scorebook/squad"
)

func oaks() api.Squad {
	return api.Squad{Name: "OAKS", Players: []string{"ANN", "BEN", "CAT", "DEE"}, Captain: 2, Keeper: 3}
}

func elms() api.Squad {
	return api.Squad{Name: "ELMS", Players: []string{"EVE", "FAY", "GUS"}, Captain: 1, Keeper: 1}
}

// wrongSides returns sides with each error that a side may have, by the error.
func wrongSides() map[api.Errno]api.Squad {
	nameless, small, twice, leaderless := oaks(), oaks(), oaks(), oaks()
	nameless.Name = ""
	small.Players = small.Players[:1]
	twice.Players = append(twice.Players, "ANN")
	leaderless.Captain = 5
	return map[api.Errno]api.Squad{api.ErrName: nameless, api.ErrLimit: small, api.ErrExists: twice, api.ErrNone: leaderless}
}

// P24.4

// lineError does what the document says of the error of a line.
func lineError(x api.BatLine, side, other api.Squad) api.Errno {
	in := func(n, lo, hi int) bool { return lo <= n && n <= hi }
	if !in(x.Player, 1, len(side.Players)) || !in(x.Bowler, 0, len(other.Players)) || !in(x.Fielder, 0, len(other.Players)) || !in(x.Runs, 0, 1_000_000) || !in(x.Balls, 0, 1_000_000) {
		return api.ErrRange
	}
	if x.Out && dismissal.Name(x.How) == "" {
		return api.ErrType
	}
	return api.OK
}

// lineText does what the document says of the text of a line without an error.
func lineText(x api.BatLine, side, other api.Squad) string {
	s := squad.Title(side, x.Player)
	if !x.Batted && !x.Out {
		return s + ": DID NOT BAT\n"
	}
	s += fmt.Sprintf(": %d (%d)", x.Runs, x.Balls)
	if !x.Out {
		return s + " NOT OUT\n"
	}
	s += " " + dismissal.Name(x.How)
	if x.Fielder != 0 {
		s += " c " + squad.Title(other, x.Fielder)
	}
	if x.Bowler != 0 {
		s += " b " + squad.Title(other, x.Bowler)
	}
	return s + "\n"
}

// randomLine returns a line, which in a few cases has an error.
func randomLine(s *rand.Rand) api.BatLine {
	pick := func(good, wrong []int) int {
		if s.Intn(60) == 0 {
			return wrong[s.Intn(len(wrong))]
		}
		return good[s.Intn(len(good))]
	}
	most := []int{-1, 1_000_001, math.MaxInt, math.MinInt}
	x := api.BatLine{
		Player: pick([]int{1, 2, 3, 4}, []int{0, -1, 5, 11, math.MaxInt, math.MinInt}), Bowler: pick([]int{0, 1, 2, 3}, []int{-1, 4, 11, math.MaxInt, math.MinInt}),
		Fielder: pick([]int{0, 1, 2, 3}, []int{-1, 4, 11, math.MaxInt, math.MinInt}), Runs: pick([]int{0, 1, 99, 1_000_000}, most), Balls: pick([]int{0, 1, 120, 1_000_000}, most),
		Out: s.Intn(2) == 0, Batted: s.Intn(2) == 0, How: api.How(s.Intn(int(api.RetiredOut) + 1)), Fours: s.Intn(9) - 4, Sixes: s.Intn(9) - 4,
	}
	if s.Intn(30) == 0 {
		x.How = []api.How{api.RetiredOut + 1, 99, 255}[s.Intn(3)]
	}
	return x
}

func TestText(t *testing.T) {
	s, met := rand.New(rand.NewSource(4)), map[api.Errno]int{}
	for range 5000 {
		var c []api.BatLine
		want, wantErr := "", api.OK
		for range s.Intn(7) {
			x := randomLine(s)
			c = append(c, x)
			if wantErr == api.OK {
				wantErr = lineError(x, oaks(), elms())
			}
			if wantErr == api.OK {
				want += lineText(x, oaks(), elms())
			}
		}
		if wantErr != api.OK {
			want = ""
		}
		if got, e := batting.Text(c, oaks(), elms()); got != want || e != wantErr {
			t.Fatalf("%+v: %q, %d, want %q, %d", c, got, e, want, wantErr)
		}
		met[wantErr]++
	}
	if len(met) != 3 || met[api.ErrRange] < 100 || met[api.ErrType] < 100 || met[api.OK] < 100 {
		t.Errorf("met: %v", met)
	}
}

func TestTextTells(t *testing.T) {
	for _, x := range []struct {
		line api.BatLine
		want string
	}{
		{api.BatLine{Player: 1}, "ANN: DID NOT BAT"},
		{api.BatLine{Player: 2, Runs: 7, Balls: 7, How: api.Bowled, Bowler: 2}, "BEN (c): DID NOT BAT"},
		{api.BatLine{Player: 2, Batted: true}, "BEN (c): 0 (0) NOT OUT"},
		{api.BatLine{Player: 3, Runs: 102, Balls: 88, Fours: 9, Sixes: 3, Batted: true}, "CAT (k): 102 (88) NOT OUT"},
		{api.BatLine{Player: 4, Batted: true, How: api.Caught, Bowler: 2, Fielder: 2}, "DEE: 0 (0) NOT OUT"},
		{api.BatLine{Player: 4, Batted: true, How: 99}, "DEE: 0 (0) NOT OUT"},
		{api.BatLine{Player: 4, How: 99}, "DEE: DID NOT BAT"},
		{api.BatLine{Player: 1, Runs: 1, Balls: 2, Batted: true, Out: true, How: api.Bowled, Bowler: 2}, "ANN: 1 (2) BOWLED b FAY"},
		{api.BatLine{Player: 1, Runs: 1, Balls: 2, Batted: true, Out: true, How: api.Caught, Bowler: 2, Fielder: 1}, "ANN: 1 (2) CAUGHT c EVE (c) (k) b FAY"},
		{api.BatLine{Player: 1, Runs: 1, Balls: 2, Batted: true, Out: true, How: api.Stumped, Bowler: 3, Fielder: 1}, "ANN: 1 (2) STUMPED c EVE (c) (k) b GUS"},
		{api.BatLine{Player: 1, Runs: 1, Balls: 2, Batted: true, Out: true, How: api.RunOut, Fielder: 3}, "ANN: 1 (2) RUNOUT c GUS"},
		{api.BatLine{Player: 1, Runs: 1, Balls: 2, Batted: true, Out: true, How: api.LegBefore, Bowler: 1}, "ANN: 1 (2) LBW b EVE (c) (k)"},
		{api.BatLine{Player: 1, Out: true, How: api.TimedOut}, "ANN: 0 (0) TIMEDOUT"},
		{api.BatLine{Player: 1, Runs: 1_000_000, Balls: 1_000_000, Batted: true, Out: true, How: api.RetiredOut}, "ANN: 1000000 (1000000) RETIRED"},
		{api.BatLine{Player: 1, Out: true}, "ANN: 0 (0) NOTOUT"},
	} {
		if s, e := batting.Text([]api.BatLine{x.line}, oaks(), elms()); s != x.want+"\n" || e != api.OK {
			t.Errorf("%+v: %q, %d, want %q", x.line, s, e, x.want)
		}
	}
	if s, e := batting.Text(nil, oaks(), elms()); s != "" || e != api.OK {
		t.Errorf("no lines: %q, %d", s, e)
	}
	// A card may have any number of lines.
	if s, e := batting.Text(make([]api.BatLine, 30), oaks(), elms()); s != "" || e != api.ErrRange {
		t.Errorf("empty lines: %q, %d", s, e)
	}
	many := make([]api.BatLine, 30)
	for i := range many {
		many[i].Player = 1
	}
	if s, e := batting.Text(many, oaks(), elms()); s != strings.Repeat("ANN: DID NOT BAT\n", 30) || e != api.OK {
		t.Errorf("many lines: %q, %d", s, e)
	}
}

func TestTextErrors(t *testing.T) {
	good := api.BatLine{Player: 4, Bowler: 3, Fielder: 3, Out: true, How: api.Caught, Batted: true}
	with := func(change func(x *api.BatLine)) api.BatLine {
		x := good
		change(&x)
		return x
	}
	unknown := with(func(x *api.BatLine) { x.How = 11 })
	for _, x := range []struct {
		name string
		c    []api.BatLine
		want api.Errno
	}{
		{"no error", []api.BatLine{good}, api.OK},
		{"no player", []api.BatLine{with(func(x *api.BatLine) { x.Player = 0 })}, api.ErrRange},
		{"a player whom the side does not have", []api.BatLine{with(func(x *api.BatLine) { x.Player = 5 })}, api.ErrRange},
		{"a bowler whom the other side does not have", []api.BatLine{with(func(x *api.BatLine) { x.Bowler = 4 })}, api.ErrRange},
		{"a negative bowler", []api.BatLine{with(func(x *api.BatLine) { x.Bowler = -1 })}, api.ErrRange},
		{"a fielder whom the other side does not have", []api.BatLine{with(func(x *api.BatLine) { x.Fielder = 4 })}, api.ErrRange},
		{"a negative fielder", []api.BatLine{with(func(x *api.BatLine) { x.Fielder = -1 })}, api.ErrRange},
		{"too many runs", []api.BatLine{with(func(x *api.BatLine) { x.Runs = 1_000_001 })}, api.ErrRange},
		{"negative runs", []api.BatLine{with(func(x *api.BatLine) { x.Runs = -1 })}, api.ErrRange},
		{"too many balls", []api.BatLine{with(func(x *api.BatLine) { x.Balls = 1_000_001 })}, api.ErrRange},
		{"negative balls", []api.BatLine{with(func(x *api.BatLine) { x.Balls = -1 })}, api.ErrRange},
		{"negative runs of a player who did not bat", []api.BatLine{{Player: 1, Runs: -1}}, api.ErrRange},
		{"an unknown way", []api.BatLine{unknown}, api.ErrType},
		{"an unknown way, and runs out of range", []api.BatLine{with(func(x *api.BatLine) { x.How, x.Runs = 11, -1 })}, api.ErrRange},
		{"an unknown way in the line before", []api.BatLine{good, unknown, {}}, api.ErrType},
		{"runs out of range in the line before", []api.BatLine{good, {}, unknown}, api.ErrRange},
	} {
		if s, e := batting.Text(x.c, oaks(), elms()); e != x.want || (s == "") != (e != api.OK) {
			t.Errorf("%s: %q, %d, want %d", x.name, s, e, x.want)
		}
		for want, wrong := range wrongSides() {
			if s, e := batting.Text(x.c, wrong, elms()); e != want || s != "" {
				t.Errorf("%s, a wrong side: %q, %d, want %d", x.name, s, e, want)
			}
			if s, e := batting.Text(x.c, oaks(), wrong); e != want || s != "" {
				t.Errorf("%s, a wrong other side: %q, %d, want %d", x.name, s, e, want)
			}
			for other, more := range wrongSides() {
				if s, e := batting.Text(x.c, wrong, more); e != want || s != "" {
					t.Errorf("%s, sides with the errors %d and %d: %q, %d", x.name, want, other, s, e)
				}
			}
		}
	}
}
