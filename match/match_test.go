package match_test

import (
	"math"
	"math/rand"
	"reflect"
	"testing"

	"scorebook/api"
	"scorebook/innings"
	"scorebook/match"
	"scorebook/rules"
)

// P15.2

func TestNewAndStarted(t *testing.T) {
	for _, r := range ruleSets() {
		m, e := match.New(r)
		want := api.Match{Rules: r, Stage: api.BeforeToss}
		if e != api.OK || !match.Same(m, want) || !match.Valid(m) || shares(pair{m, want}) {
			t.Errorf("New(%s) = %+v, %d", r.Name, m, e)
		}
		for first := 1; first <= 2; first++ {
			m, e := match.Started(r, first)
			want := api.Match{Rules: r, Stage: api.BeforeInnings, First: first}
			if e != api.OK || !match.Same(m, want) || !match.Valid(m) || match.Batting(m) != first || shares(pair{m, want}) {
				t.Errorf("Started(%s, %d) = %+v, %d", r.Name, first, m, e)
			}
		}
		for _, first := range []int{math.MinInt, -1, 0, 3, math.MaxInt} {
			if m, e := match.Started(r, first); e != api.ErrRange || !reflect.DeepEqual(m, api.Match{}) {
				t.Errorf("Started(%s, %d) = %+v, %d", r.Name, first, m, e)
			}
		}
	}
}

func TestNewErrors(t *testing.T) {
	nameless, small, odd, tight, phases := limited(), limited(), limited(), limited(), limited()
	nameless.Name, small.Side, odd.FollowOn, tight.Overs = "", 1, 9, 90
	phases.Power = make([]api.Phase, 9)
	for _, x := range []struct {
		r    api.Rules
		want api.Errno
	}{{nameless, api.ErrName}, {small, api.ErrRange}, {odd, api.ErrArg}, {tight, api.ErrConflict}, {phases, api.ErrLimit}} {
		if m, e := match.New(x.r); e != x.want || !reflect.DeepEqual(m, api.Match{}) {
			t.Errorf("New(%+v) = %+v, %d", x.r, m, e)
		}
		for first := range 4 {
			if m, e := match.Started(x.r, first); e != x.want || !reflect.DeepEqual(m, api.Match{}) {
				t.Errorf("Started(%+v, %d) = %+v, %d", x.r, first, m, e)
			}
		}
	}
}

// P15.3

func TestBatting(t *testing.T) {
	s := rand.New(rand.NewSource(2))
	seen := map[int]int{}
	for range 5000 {
		for _, r := range ruleSets() {
			m := randomMatch(s, r)
			if s.Intn(4) == 0 {
				damage(s, &m)
			}
			want := 0
			if len(broken(m)) == 0 {
				switch m.Stage {
				case api.InPlay:
					want = side(m, len(m.Innings)-1)
				case api.BeforeInnings:
					want = side(m, len(m.Innings))
				}
			}
			if got := match.Batting(m); got != want {
				t.Fatalf("Batting of %+v = %d, want %d", m, got, want)
			}
			seen[want]++
		}
	}
	if seen[0] < 100 || seen[1] < 100 || seen[2] < 100 {
		t.Errorf("met: %v", seen)
	}
}

func TestBattingInOrder(t *testing.T) {
	for first := 1; first <= 2; first++ {
		for _, follow := range []bool{false, true} {
			m, _ := match.Started(long(), first)
			other := 3 - first
			want := []int{first, other, first, other}
			if follow {
				want = []int{first, other, other, first}
			}
			for n, side := range want {
				m.Follow = follow && n >= 2
				if n == 2 {
					m.Stage = api.Choice
					if match.Batting(m) != 0 {
						t.Errorf("a side bats before the choice")
					}
					m.Stage = api.BeforeInnings
				}
				if got := match.Batting(m); got != side {
					t.Errorf("first %d, follow-on %v, before innings %d: side %d", first, follow, n, got)
				}
				in, _ := innings.Begin(long(), side, 0, 0)
				m.Stage, m.Innings = api.InPlay, append(m.Innings, in)
				if got := match.Batting(m); got != side {
					t.Errorf("first %d, follow-on %v, in innings %d: side %d", first, follow, n, got)
				}
				m.Stage, m.Innings[n].Ending = api.BeforeInnings, api.Declared
			}
			m.Stage = api.Finished
			if !match.Valid(m) || match.Batting(m) != 0 {
				t.Errorf("a side bats at the end")
			}
		}
	}
	m, _ := match.New(long())
	if match.Batting(m) != 0 || match.Batting(api.Match{Stage: api.BeforeInnings, First: 1}) != 0 {
		t.Errorf("a side bats before the toss, or in a state that is not valid")
	}
}

func TestTotal(t *testing.T) {
	var m api.Match
	for _, x := range []struct{ side, runs int }{{1, 10}, {2, 7}, {1, 5}, {2, 100}, {3, 9}, {-1, 4}, {1, -20}} {
		m.Innings = append(m.Innings, api.Innings{Side: x.side, Runs: x.runs})
	}
	for _, x := range []struct{ side, want int }{{1, -5}, {2, 107}, {3, 9}, {-1, 4}, {0, 0}, {math.MaxInt, 0}} {
		if n := match.Total(m, x.side); n != x.want {
			t.Errorf("Total of side %d = %d, want %d", x.side, n, x.want)
		}
	}
	m.Innings = []api.Innings{{Side: 1, Runs: math.MaxInt}, {Side: 1, Runs: 1}}
	if n := match.Total(m, 1); n != math.MinInt {
		t.Errorf("Total beyond the range = %d", n)
	}
	m = api.Match{Rules: long(), Stage: api.BeforeInnings, First: 1, Penalty: [2]int{5, 10}}
	if match.Total(m, 1) != 0 || match.Total(m, 2) != 0 {
		t.Error("runs that wait are in the total")
	}
}

// full returns a valid state with something in every field that may have it, with marks in the spare capacity.
func full() api.Match {
	r := limited()
	r.Innings, r.Quota, r.FollowOn = 2, 2, 50
	r.Power = append(r.Power, api.Phase{From: 77, To: 77, Outside: 77})[:1]
	m := api.Match{Rules: r, Stage: api.InPlay, First: 2, Follow: true, Penalty: [2]int{5, 10}, Result: api.Result{Win: api.ByRuns, Side: 1, Margin: 3}}
	for i, side := range []int{2, 1, 1, 77} {
		in := api.Innings{
			Side: side, Target: 90 + i, Overs: 2, Runs: 20 + i, Wickets: 1,
			Extras:   api.Extras{Wides: 1, NoBalls: 2, Byes: 3, LegByes: 4, Penalties: 5},
			Complete: 1, InOver: 2, Striker: 3, Other: 1,
			Batters: append([]api.Status{api.Batting, api.Dismissed, api.Batting}, 77)[:3],
			Bowler:  1, Bowlers: append([]int{3, 1}, 77)[:2], Before: append([]int{2}, 77)[:1], Fresh: true,
			Bowled: append([]int{2, 4, 0}, 77)[:3], FreeHit: true, BallAge: 6,
			Keeper: 2, Outside: 1, Subs: append([]bool{false, false, true}, true)[:3],
			Reviews: [2]int{1, 2}, Ending: api.Declared,
		}
		if i == 2 {
			in.Ending = api.NotEnded
		}
		m.Innings = append(m.Innings, in)
	}
	m.Innings = m.Innings[:3]
	return m
}

// isFull reports whether a state is the one of full, with its marks.
func isFull(m api.Match) bool {
	want := full()
	if m.Rules.Power[:2][1] != want.Rules.Power[:2][1] || !reflect.DeepEqual(m.Innings[:4], want.Innings[:4]) || !reflect.DeepEqual(m, want) {
		return false
	}
	for _, in := range m.Innings[:4] {
		if in.Batters[:4][3] != 77 || in.Bowlers[:3][2] != 77 || in.Before[:2][1] != 77 || in.Bowled[:4][3] != 77 || !in.Subs[:4][3] {
			return false
		}
	}
	return true
}

// leaves calls f for every number, text and flag in a value, the elements of lists included.
func leaves(v reflect.Value, path string, f func(path string, v reflect.Value)) {
	switch v.Kind() {
	case reflect.Struct:
		for i := range v.NumField() {
			leaves(v.Field(i), path+"."+v.Type().Field(i).Name, f)
		}
	case reflect.Slice, reflect.Array:
		for i := range v.Len() {
			leaves(v.Index(i), path+"[]", f)
		}
	default:
		f(path, v)
	}
}

// alter gives a number, a text or a flag another value.
func alter(v reflect.Value) {
	switch v.Kind() {
	case reflect.Bool:
		v.SetBool(!v.Bool())
	case reflect.String:
		v.SetString(v.String() + "X")
	case reflect.Int:
		v.SetInt(v.Int() + 1)
	default:
		v.SetUint(v.Uint() + 1)
	}
}

// P15.7: Same and Clone

func TestSame(t *testing.T) {
	count := 0
	a, b := full(), full()
	leaves(reflect.ValueOf(&b).Elem(), "", func(path string, v reflect.Value) {
		old := reflect.ValueOf(v.Interface())
		alter(v)
		if match.Same(a, b) || match.Same(b, a) {
			t.Errorf("%s: no difference", path)
		}
		v.Set(old)
		if !match.Same(a, b) || !match.Same(b, a) {
			t.Errorf("%s: a difference", path)
		}
		count++
	})
	// 16 of the rules, 3 * 35 of the innings, 8 others.
	if count != 129 || !isFull(a) || !isFull(b) {
		t.Errorf("%d numbers, texts and flags", count)
	}
	b.Innings = b.Innings[:2]
	if match.Same(a, b) || match.Same(b, a) {
		t.Error("lists of different lengths are the same")
	}
	b.Innings = full().Innings
	b.Rules.Power = nil
	if match.Same(a, b) || match.Same(b, a) {
		t.Error("rules with different powerplays are the same")
	}
	if !match.Same(api.Match{}, api.Match{Rules: api.Rules{Power: []api.Phase{}}, Innings: []api.Innings{}}) {
		t.Error("nil and empty lists are not the same")
	}
}

func TestClone(t *testing.T) {
	m := full()
	c := match.Clone(m)
	if !reflect.DeepEqual(c, full()) || !match.Same(m, c) || !isFull(m) {
		t.Errorf("Clone = %+v", c)
	}
	if shares(pair{m, c}) {
		t.Error("memory is shared")
	}
	leaves(reflect.ValueOf(&c).Elem(), "", func(_ string, v reflect.Value) { alter(v) })
	if !isFull(m) {
		t.Errorf("the argument became %+v", m)
	}
	if c := match.Clone(api.Match{}); !match.Same(c, api.Match{}) {
		t.Errorf("Clone of nothing = %+v", c)
	}
	odd := api.Match{Rules: api.Rules{Name: "", Side: -1}, Stage: 99, First: -3, Innings: []api.Innings{{Side: 9}, {}}, Result: api.Result{Win: 200}}
	if c := match.Clone(odd); !match.Same(c, odd) || rules.Same(c.Rules, api.Rules{}) {
		t.Errorf("Clone of any state = %+v", c)
	}
}

func TestFullIsValid(t *testing.T) {
	if m := full(); !match.Valid(m) || !isFull(m) || shares(m) {
		t.Errorf("the state of the tests breaks %v", broken(m))
	}
}
