package innings_test

import (
	"math"
	"math/rand"
	"reflect"
	"slices"
	"testing"

	"scorebook/api"
	"scorebook/innings"
)

// bound is the greatest number of what is counted in an innings.
const bound = 1_000_000_000

// limited are rules of an innings of 3 overs of 4 balls.
func limited() api.Rules {
	return api.Rules{Name: "LIMITED", Side: 4, Innings: 1, Overs: 3, Balls: 4, Quota: 2, Wide: 1, NoBall: 2, FreeHit: true, NewBall: 1, Reviews: 2, Outside: 1, Power: []api.Phase{{From: 1, To: 1, Outside: 0}}}
}

// open are rules of an innings without a limit.
func open() api.Rules {
	return api.Rules{Name: "OPEN", Side: 3, Innings: 2, Balls: 5, Wide: 2, NoBall: 1, NewBall: 2, FollowOn: 20, Reviews: 1, Outside: 2}
}

// ruleSets returns rules of all sorts, without an error.
func ruleSets() []api.Rules {
	small, large := limited(), open()
	small.Side, small.Overs, small.FreeHit, small.Power = 2, 1, false, nil
	large.Side, large.Balls, large.Reviews, large.FreeHit = 11, 8, 9, true
	return []api.Rules{limited(), open(), small, large}
}

// playing returns a valid state of an innings of limited, with something in every field that may have it.
func playing() api.Innings {
	return api.Innings{
		Side: 2, Target: 30, Overs: 2, Runs: 20, Wickets: 1,
		Extras:   api.Extras{Wides: 1, NoBalls: 2, Byes: 3, LegByes: 4, Penalties: 5},
		Complete: 1, InOver: 2, Striker: 3, Other: 1,
		Batters: append([]api.Status{api.Batting, api.Dismissed, api.Batting, api.Hurt}, 77)[:4],
		Bowler:  1,
		Bowlers: append([]int{4, 1}, 77)[:2], Before: append([]int{2}, 77)[:1], Fresh: true,
		Bowled: append([]int{2, 4, 0, 0}, 77)[:4], FreeHit: true, BallAge: 6,
		Keeper: 2, Outside: 1, Subs: append([]bool{false, false, true, false}, true)[:4],
		Reviews: [2]int{1, 2},
	}
}

// isPlaying reports whether a state is the one of playing, with the marks behind its lists.
func isPlaying(in api.Innings) bool {
	marks := in.Batters[:5][4] == 77 && in.Bowlers[:3][2] == 77 && in.Before[:2][1] == 77 && in.Bowled[:5][4] == 77 && in.Subs[:5][4]
	return marks && reflect.DeepEqual(in, playing())
}

// P14.1

func TestValidTells(t *testing.T) {
	if in := playing(); !innings.Valid(limited(), in) || !isPlaying(in) {
		t.Fatal("the state of the tests is not valid, or it is changed")
	}
	if innings.Valid(api.Rules{}, playing()) || innings.Valid(limited(), api.Innings{}) || innings.Valid(api.Rules{}, api.Innings{}) {
		t.Error("a zero is valid")
	}
	if innings.Valid(open(), playing()) {
		t.Error("a state of other rules is valid")
	}
}

// counter is a number of a state, with its range in an innings of limited.
type counter struct {
	name   string
	at     func(in *api.Innings) *int
	lo, hi int
}

// counters returns the numbers that may have any value of their range, whatever the others are.
func counters() []counter {
	return []counter{
		{"Side", func(in *api.Innings) *int { return &in.Side }, 1, 2},
		{"Target", func(in *api.Innings) *int { return &in.Target }, 0, bound},
		{"Overs", func(in *api.Innings) *int { return &in.Overs }, 1, 3},
		{"Runs", func(in *api.Innings) *int { return &in.Runs }, 0, bound},
		{"Wickets", func(in *api.Innings) *int { return &in.Wickets }, 1, 1},
		{"Wides", func(in *api.Innings) *int { return &in.Extras.Wides }, 0, bound},
		{"NoBalls", func(in *api.Innings) *int { return &in.Extras.NoBalls }, 0, bound},
		{"Byes", func(in *api.Innings) *int { return &in.Extras.Byes }, 0, bound},
		{"LegByes", func(in *api.Innings) *int { return &in.Extras.LegByes }, 0, bound},
		{"Penalties", func(in *api.Innings) *int { return &in.Extras.Penalties }, 0, bound},
		{"Complete", func(in *api.Innings) *int { return &in.Complete }, 0, bound},
		{"InOver", func(in *api.Innings) *int { return &in.InOver }, 0, 3},
		{"Bowler", func(in *api.Innings) *int { return &in.Bowler }, 0, 4},
		{"first of Bowlers", func(in *api.Innings) *int { return &in.Bowlers[0] }, 2, 4},
		{"only one of Before", func(in *api.Innings) *int { return &in.Before[0] }, 1, 4},
		{"first of Bowled", func(in *api.Innings) *int { return &in.Bowled[0] }, 0, bound},
		{"last of Bowled", func(in *api.Innings) *int { return &in.Bowled[3] }, 0, bound},
		{"BallAge", func(in *api.Innings) *int { return &in.BallAge }, 0, bound},
		{"Keeper", func(in *api.Innings) *int { return &in.Keeper }, 0, 4},
		{"Outside", func(in *api.Innings) *int { return &in.Outside }, 0, bound},
		{"Reviews of side 1", func(in *api.Innings) *int { return &in.Reviews[0] }, 0, bound},
		{"Reviews of side 2", func(in *api.Innings) *int { return &in.Reviews[1] }, 0, bound},
	}
}

func TestValidNumbers(t *testing.T) {
	for _, c := range counters() {
		for _, n := range []int{math.MinInt, -bound, -2, -1, 0, 1, 2, 3, 4, 5, 6, 90, 91, bound - 1, bound, bound + 1, math.MaxInt} {
			in := playing()
			*c.at(&in) = n
			if want := c.lo <= n && n <= c.hi; innings.Valid(limited(), in) != want {
				t.Errorf("%s %d: not %v", c.name, n, want)
			}
		}
	}
}

func TestValidOversWithoutLimit(t *testing.T) {
	in, e := innings.Begin(open(), 1, 0, 0)
	if e != api.OK || !innings.Valid(open(), in) {
		t.Fatal(in, e)
	}
	for _, n := range []int{math.MinInt, -1, 1, 2, 90, math.MaxInt} {
		in.Overs = n
		if innings.Valid(open(), in) {
			t.Errorf("%d overs without a limit: valid", n)
		}
	}
}

func TestValidEndings(t *testing.T) {
	in := playing()
	for n := range 256 {
		in.Ending = api.Ending(n)
		if innings.Valid(limited(), in) != (n <= 5) {
			t.Errorf("ending %d: %v", n, n > 5)
		}
	}
}

func TestValidFlags(t *testing.T) {
	for set := range 64 {
		in := playing()
		in.Fresh, in.FreeHit = set&1 != 0, set&2 != 0
		for i := range in.Subs {
			in.Subs[i] = set>>(i+2)&1 != 0
		}
		if !innings.Valid(limited(), in) {
			t.Errorf("not valid: %+v", in)
		}
	}
}

func TestValidLists(t *testing.T) {
	for _, x := range []struct {
		name   string
		change func(in *api.Innings)
		want   bool
	}{
		{"no bowlers", func(in *api.Innings) { in.Bowlers, in.Before = nil, []int{} }, true},
		{"all bowlers", func(in *api.Innings) { in.Bowlers, in.Before = []int{4, 3, 2, 1}, []int{1, 2, 3, 4} }, true},
		{"a bowler twice", func(in *api.Innings) { in.Bowlers = []int{2, 1, 2} }, false},
		{"a bowler twice in a row", func(in *api.Innings) { in.Bowlers = []int{3, 3} }, false},
		{"a bowler 0", func(in *api.Innings) { in.Bowlers = []int{1, 0} }, false},
		{"a bowler 5", func(in *api.Innings) { in.Bowlers = []int{5, 1} }, false},
		{"a bowler before twice", func(in *api.Innings) { in.Before = []int{1, 4, 1} }, false},
		{"a bowler before 0", func(in *api.Innings) { in.Before = []int{0} }, false},
		{"a bowler before 5", func(in *api.Innings) { in.Before = []int{1, 2, 5} }, false},
		{"three batters", func(in *api.Innings) { in.Batters = in.Batters[:3] }, false},
		{"five batters", func(in *api.Innings) { in.Batters = append(in.Batters, api.Waiting) }, false},
		{"no batters", func(in *api.Innings) { in.Batters = nil }, false},
		{"three counts", func(in *api.Innings) { in.Bowled = in.Bowled[:3] }, false},
		{"five counts", func(in *api.Innings) { in.Bowled = append(in.Bowled, 0) }, false},
		{"no counts", func(in *api.Innings) { in.Bowled = nil }, false},
		{"three substitutes", func(in *api.Innings) { in.Subs = in.Subs[:3] }, false},
		{"five substitutes", func(in *api.Innings) { in.Subs = append(in.Subs, false) }, false},
		{"no substitutes", func(in *api.Innings) { in.Subs = nil }, false},
	} {
		in := playing()
		x.change(&in)
		if innings.Valid(limited(), in) != x.want {
			t.Errorf("%s: not %v", x.name, x.want)
		}
	}
}

func TestValidRules(t *testing.T) {
	for _, change := range []func(r *api.Rules){
		func(r *api.Rules) { r.Name = "" },
		func(r *api.Rules) { r.Wide = 0 },
		func(r *api.Rules) { r.FollowOn = 10 },
		func(r *api.Rules) { r.Power = []api.Phase{{From: 2, To: 1}} },
	} {
		r := limited()
		change(&r)
		if innings.Valid(r, playing()) {
			t.Errorf("valid with the rules %+v", r)
		}
	}
}

// battersFit does what the document says of the statuses, the places and the wickets of a side of 3.
func battersFit(batters []api.Status, striker, other, wickets int) bool {
	if striker < 0 || striker > 3 || other < 0 || other > 3 {
		return false
	}
	var batting, places []int
	begun, out := false, 0
	for i, s := range batters {
		switch s {
		case api.Waiting:
			continue
		case api.Batting:
			batting = append(batting, i+1)
		case api.Dismissed:
			out++
		case api.Hurt:
		default:
			return false
		}
		begun = true
	}
	for _, p := range []int{striker, other} {
		if p != 0 {
			places = append(places, p)
		}
	}
	if len(places) == 2 && striker == other || len(places) == 0 && begun {
		return false
	}
	slices.Sort(places)
	return slices.Equal(batting, places) && wickets == out
}

func TestValidBatters(t *testing.T) {
	in, _ := innings.Begin(open(), 1, 0, 0)
	statuses := []api.Status{api.Waiting, api.Batting, api.Dismissed, api.Hurt, 4, 255}
	count := 0
	for code := range 6 * 6 * 6 {
		in.Batters = []api.Status{statuses[code%6], statuses[code/6%6], statuses[code/36]}
		for striker := -1; striker <= 4; striker++ {
			for other := -1; other <= 4; other++ {
				for wickets := -1; wickets <= 4; wickets++ {
					in.Striker, in.Other, in.Wickets = striker, other, wickets
					want := battersFit(in.Batters, striker, other, wickets)
					if innings.Valid(open(), in) != want {
						t.Fatalf("not %v: %+v", want, in)
					}
					if want {
						count++
					}
				}
			}
		}
	}
	// Nobody has come in: 1 state. One is batting at one of 2 places: 3 * 9 * 2. Two are, in one of 2 orders: 3 * 3 * 2.
	if count != 1+54+18 {
		t.Errorf("%d states are valid", count)
	}
}

// randomState returns a random valid state, of an innings that has begun and mostly goes on.
func randomState(s *rand.Rand, r api.Rules) api.Innings {
	in, _ := innings.Begin(r, 1+s.Intn(2), 0, 0)
	if s.Intn(3) == 0 {
		in.Target = s.Intn(300)
	}
	if r.Overs > 0 {
		in.Overs = 1 + s.Intn(r.Overs)
	}
	in.Runs, in.Complete, in.InOver, in.BallAge = s.Intn(200), s.Intn(4), s.Intn(r.Balls), s.Intn(40)
	in.Extras = api.Extras{Wides: s.Intn(9), NoBalls: s.Intn(9), Byes: s.Intn(9), LegByes: s.Intn(9), Penalties: s.Intn(9)}
	placeBatters(s, &in)
	in.Bowler, in.Keeper, in.Outside = s.Intn(r.Side+1), s.Intn(r.Side+1), s.Intn(3)
	in.Bowlers, in.Before = players(s, r.Side), players(s, r.Side)
	for i := range r.Side {
		in.Bowled[i], in.Subs[i] = s.Intn(10), s.Intn(6) == 0
	}
	in.Fresh, in.FreeHit = s.Intn(2) == 0, s.Intn(2) == 0
	in.Reviews = [2]int{s.Intn(r.Reviews + 2), s.Intn(r.Reviews + 2)}
	if s.Intn(10) == 0 {
		in.Ending = api.Ending(s.Intn(6))
	}
	return in
}

// placeBatters gives the batters of a state random statuses and places.
func placeBatters(s *rand.Rand, in *api.Innings) {
	order := s.Perm(len(in.Batters))
	in.Striker, in.Other = order[0]+1, order[1]+1
	for _, i := range order[2:] {
		in.Batters[i] = []api.Status{api.Waiting, api.Dismissed, api.Hurt}[s.Intn(3)]
	}
	in.Batters[order[0]], in.Batters[order[1]] = api.Batting, api.Batting
	switch s.Intn(8) {
	case 0:
		in.Striker, in.Batters[order[0]] = 0, api.Dismissed
	case 1:
		in.Other, in.Batters[order[1]] = 0, api.Hurt
	case 2:
		for i := range in.Batters {
			in.Batters[i] = api.Waiting
		}
		in.Striker, in.Other = 0, 0
	}
	for _, b := range in.Batters {
		if b == api.Dismissed {
			in.Wickets++
		}
	}
}

// players returns up to 3 different players of a side.
func players(s *rand.Rand, side int) []int {
	l := s.Perm(side)[:s.Intn(min(side, 3)+1)]
	for i := range l {
		l[i]++
	}
	return l
}

func TestRandomStatesAreValid(t *testing.T) {
	s := rand.New(rand.NewSource(14))
	for range 20000 {
		for _, r := range ruleSets() {
			if in := randomState(s, r); !innings.Valid(r, in) {
				t.Fatalf("rules %+v: not valid: %+v", r, in)
			}
		}
	}
}
