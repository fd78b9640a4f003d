package match_test

import (
	"math"
	"math/rand"
	"reflect"
	"slices"
	"testing"

	"scorebook/api"
	"scorebook/innings"
	"scorebook/match"
	"scorebook/rules"
)

// maxWaiting is the greatest number of penalty runs that wait.
const maxWaiting = 1_000_000

// limited are rules of a match of one innings a side.
func limited() api.Rules {
	return api.Rules{Name: "LIMITED", Side: 3, Innings: 1, Overs: 2, Balls: 4, Quota: 1, Wide: 1, NoBall: 2, FreeHit: true, NewBall: 1, Reviews: 2, Outside: 1, Power: []api.Phase{{From: 1, To: 1, Outside: 0}}}
}

// long are rules of a match of two innings a side, without a limit of overs and with the follow-on.
func long() api.Rules {
	return api.Rules{Name: "LONG", Side: 2, Innings: 2, Balls: 5, Wide: 2, NoBall: 1, NewBall: 2, FollowOn: 4, Reviews: 1}
}

// ruleSets returns rules of all sorts, without an error.
func ruleSets() []api.Rules {
	small, open, twice := limited(), long(), long()
	small.Side, small.Overs, small.Power, small.Quota = 2, 1, nil, 0
	open.Side, open.Innings, open.FollowOn = 3, 1, 0
	twice.Overs, twice.FollowOn = 1, 0
	return []api.Rules{limited(), long(), small, open, twice}
}

func TestRulesOfTheTests(t *testing.T) {
	for _, r := range ruleSets() {
		if e := rules.Check(r); e != api.OK {
			t.Errorf("%+v: %d", r, e)
		}
	}
}

// side returns the side that bats in the innings with an index, by the document's order.
func side(m api.Match, index int) int {
	order := []int{m.First, 3 - m.First, m.First, 3 - m.First}
	if m.Follow {
		order = []int{m.First, 3 - m.First, 3 - m.First, m.First}
	}
	return order[index]
}

// broken returns the numbers of the document's conditions of a valid state that do not hold.
func broken(m api.Match) []int {
	n := len(m.Innings)
	most := 2 * m.Rules.Innings
	isSide := m.First == 1 || m.First == 2
	early := m.First == 0 && n == 0 && (m.Stage == api.BeforeToss || m.Stage == api.Finished)
	valid, inOrder, before, last := true, true, true, true
	for i, in := range m.Innings {
		ended := in.Ending != api.NotEnded
		valid = valid && innings.Valid(m.Rules, in)
		inOrder = inOrder && i < 4 && in.Side == side(m, i)
		if i < n-1 {
			before = before && ended
		} else {
			last = ended
		}
	}
	waiting := true
	for _, p := range m.Penalty {
		waiting = waiting && 0 <= p && p <= maxWaiting
	}
	var l []int
	for i, holds := range []bool{
		rules.Check(m.Rules) == api.OK,
		slices.Contains([]api.Stage{api.BeforeToss, api.BeforeInnings, api.InPlay, api.Choice, api.Finished}, m.Stage),
		waiting,
		isSide || early,
		m.Stage != api.BeforeToss || m.First == 0,
		n <= most,
		valid,
		inOrder,
		before,
		last || m.Stage == api.InPlay,
		m.Stage != api.InPlay || n > 0 && !last,
		m.Stage != api.BeforeInnings || n < most,
		m.Stage != api.Choice || m.Rules.Innings == 2 && n == 2,
		!m.Follow || m.Rules.Innings == 2 && n >= 2,
	} {
		if !holds {
			l = append(l, i)
		}
	}
	return l
}

// randomInnings returns a random valid state of an innings, which has ended or goes on.
func randomInnings(s *rand.Rand, r api.Rules, side int, ended bool) api.Innings {
	in, _ := innings.Begin(r, side, s.Intn(2)*s.Intn(20), s.Intn(2)*5)
	in.Runs += s.Intn(20)
	in.Striker, in.Other = 1, 2
	in.Batters[0], in.Batters[1] = api.Batting, api.Batting
	if r.Side > 2 && s.Intn(2) == 0 {
		in.Other, in.Batters[1], in.Wickets = 0, api.Dismissed, 1
	}
	in.Keeper, in.Bowler = s.Intn(r.Side+1), s.Intn(r.Side+1)
	in.Complete, in.InOver, in.BallAge = s.Intn(3), s.Intn(r.Balls), s.Intn(20)
	in.Fresh, in.FreeHit = s.Intn(2) == 0, s.Intn(3) == 0
	in.Reviews = [2]int{s.Intn(3), s.Intn(3)}
	if ended {
		in.Ending = []api.Ending{api.AllOut, api.OversDone, api.TargetReached, api.Declared, api.Declared, api.Stopped}[s.Intn(6)]
	}
	return in
}

// randomMatch returns a random valid state of a match with these rules.
func randomMatch(s *rand.Rand, r api.Rules) api.Match {
	m := api.Match{Rules: rules.Clone(r), Stage: api.Stage(1 + s.Intn(5)), First: 1 + s.Intn(2)}
	n := s.Intn(2*r.Innings + 1)
	switch m.Stage {
	case api.BeforeToss:
		m.First, n = 0, 0
	case api.BeforeInnings:
		n = min(n, 2*r.Innings-1)
	case api.InPlay:
		n = max(n, 1)
	case api.Choice:
		n = 2
		if r.Innings == 1 {
			m.Stage = api.Finished
		}
	}
	if n == 0 && m.Stage == api.Finished {
		m.First = s.Intn(3)
	}
	m.Follow = n >= 2 && r.Innings == 2 && s.Intn(2) == 0
	for i := range n {
		m.Innings = append(m.Innings, randomInnings(s, r, side(m, i), m.Stage != api.InPlay || i < n-1))
	}
	if s.Intn(2) == 0 {
		m.Penalty = [2]int{s.Intn(3) * 5, s.Intn(3) * 5}
	}
	if s.Intn(3) == 0 {
		m.Result = api.Result{Win: api.Win(s.Intn(8)), Side: s.Intn(3), Margin: s.Intn(9)}
	}
	return m
}

// damage changes something in a state, so that it is often not valid.
func damage(s *rand.Rand, m *api.Match) {
	odd := []int{math.MinInt, -1, 0, 1, 2, 3, 4, maxWaiting, maxWaiting + 1, math.MaxInt}
	n := len(m.Innings)
	switch s.Intn(10) {
	case 0:
		m.Rules.Wide = 0
	case 1:
		m.Stage = api.Stage(s.Intn(8))
	case 2:
		m.Penalty[s.Intn(2)] = odd[s.Intn(len(odd))]
	case 3:
		m.First = odd[s.Intn(len(odd))]
	case 4:
		m.Follow = !m.Follow
	case 5:
		m.Innings = m.Innings[:s.Intn(n+1)]
	case 6:
		r := m.Rules
		r.Wide = 1
		in := randomInnings(s, r, 1, s.Intn(4) != 0)
		in.Side = side(*m, n%4)
		m.Innings = append(m.Innings, in)
	case 7:
		if n > 0 {
			m.Innings[s.Intn(n)].Ending = api.Ending(s.Intn(7))
		}
	case 8:
		if n > 0 {
			m.Innings[s.Intn(n)].Side = s.Intn(4)
		}
	case 9:
		if n > 0 {
			m.Innings[s.Intn(n)].Runs = -1
		}
	}
}

// P15.1

func TestValid(t *testing.T) {
	s := rand.New(rand.NewSource(1))
	alone, valid := map[int]int{}, map[api.Stage]int{}
	for range 40000 {
		for _, r := range ruleSets() {
			m := randomMatch(s, r)
			if b := broken(m); len(b) > 0 {
				t.Fatalf("the state %+v of the tests breaks %v", m, b)
			}
			for range s.Intn(3) {
				damage(s, &m)
			}
			before := match.Clone(m)
			b := broken(m)
			if match.Valid(m) != (len(b) == 0) || !match.Same(m, before) {
				t.Fatalf("Valid of %+v is %v, broken are %v", m, len(b) > 0, b)
			}
			switch len(b) {
			case 0:
				valid[m.Stage]++
			case 1:
				alone[b[0]]++
			}
		}
	}
	for i := range 14 {
		if alone[i] < 20 {
			t.Errorf("condition %d: broken alone %d times", i, alone[i])
		}
	}
	for stage := api.BeforeToss; stage <= api.Finished; stage++ {
		if valid[stage] < 100 {
			t.Errorf("stage %d: valid %d times", stage, valid[stage])
		}
	}
}

func TestValidTells(t *testing.T) {
	ended := func(r api.Rules, sides ...int) []api.Innings {
		var l []api.Innings
		for _, side := range sides {
			in, _ := innings.Begin(r, side, 0, 0)
			in.Ending = api.Declared
			l = append(l, in)
		}
		return l
	}
	for _, x := range []struct {
		name string
		m    api.Match
		want bool
	}{
		{"nothing", api.Match{}, false},
		{"before the toss", api.Match{Rules: long(), Stage: api.BeforeToss}, true},
		{"no stage", api.Match{Rules: long(), First: 1}, false},
		{"a sixth stage", api.Match{Rules: long(), Stage: 6, First: 1}, false},
		{"a first side before the toss", api.Match{Rules: long(), Stage: api.BeforeToss, First: 1}, false},
		{"innings before the toss", api.Match{Rules: long(), Stage: api.BeforeToss, Innings: ended(long(), 1)}, false},
		{"no first side", api.Match{Rules: long(), Stage: api.BeforeInnings}, false},
		{"a first side", api.Match{Rules: long(), Stage: api.BeforeInnings, First: 2}, true},
		{"a third side", api.Match{Rules: long(), Stage: api.BeforeInnings, First: 3}, false},
		{"stopped before the toss", api.Match{Rules: long(), Stage: api.Finished}, true},
		{"stopped before the innings", api.Match{Rules: long(), Stage: api.Finished, First: 1}, true},
		{"finished without a first side", api.Match{Rules: long(), Stage: api.Finished, Innings: ended(long(), 1)}, false},
		{"the most penalty runs", api.Match{Rules: long(), Stage: api.BeforeToss, Penalty: [2]int{maxWaiting, maxWaiting}}, true},
		{"more penalty runs", api.Match{Rules: long(), Stage: api.BeforeToss, Penalty: [2]int{0, maxWaiting + 1}}, false},
		{"less penalty runs", api.Match{Rules: long(), Stage: api.BeforeToss, Penalty: [2]int{-1, 0}}, false},
		{"any result", api.Match{Rules: long(), Stage: api.BeforeToss, Result: api.Result{Win: 99, Side: -1, Margin: -1}}, true},
		{"all innings", api.Match{Rules: long(), Stage: api.Finished, First: 2, Innings: ended(long(), 2, 1, 2, 1)}, true},
		{"all innings with the follow-on", api.Match{Rules: long(), Stage: api.Finished, First: 2, Follow: true, Innings: ended(long(), 2, 1, 1, 2)}, true},
		{"the follow-on as if there were none", api.Match{Rules: long(), Stage: api.Finished, First: 2, Follow: true, Innings: ended(long(), 2, 1, 2, 1)}, false},
		{"no follow-on as if there were one", api.Match{Rules: long(), Stage: api.Finished, First: 2, Innings: ended(long(), 2, 1, 1, 2)}, false},
		{"a side twice", api.Match{Rules: long(), Stage: api.Finished, First: 2, Innings: ended(long(), 2, 2)}, false},
		{"five innings", api.Match{Rules: long(), Stage: api.Finished, First: 1, Innings: ended(long(), 1, 2, 1, 2, 1)}, false},
		{"all innings and one to come", api.Match{Rules: long(), Stage: api.BeforeInnings, First: 1, Innings: ended(long(), 1, 2, 1, 2)}, false},
		{"three innings and one to come", api.Match{Rules: long(), Stage: api.BeforeInnings, First: 1, Innings: ended(long(), 1, 2, 1)}, true},
		{"two innings of one a side and one to come", api.Match{Rules: limited(), Stage: api.BeforeInnings, First: 1, Innings: ended(limited(), 1, 2)}, false},
		{"three innings of one a side", api.Match{Rules: limited(), Stage: api.Finished, First: 1, Innings: ended(limited(), 1, 2, 1)}, false},
		{"a choice", api.Match{Rules: long(), Stage: api.Choice, First: 1, Innings: ended(long(), 1, 2)}, true},
		{"a choice that is made", api.Match{Rules: long(), Stage: api.Choice, First: 1, Follow: true, Innings: ended(long(), 1, 2)}, true},
		{"a choice after an innings", api.Match{Rules: long(), Stage: api.Choice, First: 1, Innings: ended(long(), 1)}, false},
		{"a choice after three innings", api.Match{Rules: long(), Stage: api.Choice, First: 1, Innings: ended(long(), 1, 2, 1)}, false},
		{"a choice with one innings a side", api.Match{Rules: limited(), Stage: api.Choice, First: 1, Innings: ended(limited(), 1, 2)}, false},
		{"the follow-on after an innings", api.Match{Rules: long(), Stage: api.BeforeInnings, First: 1, Follow: true, Innings: ended(long(), 1)}, false},
		{"the follow-on with one innings a side", api.Match{Rules: limited(), Stage: api.Finished, First: 1, Follow: true, Innings: ended(limited(), 1, 2)}, false},
		{"play without an innings", api.Match{Rules: long(), Stage: api.InPlay, First: 1}, false},
		{"play in an innings that has ended", api.Match{Rules: long(), Stage: api.InPlay, First: 1, Innings: ended(long(), 1)}, false},
		{"innings of other rules", api.Match{Rules: long(), Stage: api.Finished, First: 1, Innings: ended(limited(), 1)}, false},
		{"rules that have an error", api.Match{Rules: api.Rules{Name: "R"}, Stage: api.BeforeToss}, false},
	} {
		if match.Valid(x.m) != x.want {
			t.Errorf("%s: not %v", x.name, x.want)
		}
	}
}

func TestValidGoesOn(t *testing.T) {
	m, _ := match.Started(long(), 1)
	in, _ := innings.Begin(long(), 1, 0, 0)
	m.Innings = append(m.Innings, in)
	for stage := range api.Stage(7) {
		m.Stage = stage
		if match.Valid(m) != (stage == api.InPlay) {
			t.Errorf("an innings that goes on in stage %d: %v", stage, match.Valid(m))
		}
	}
	m.Innings[0].Ending = api.AllOut
	in.Side = 2
	m.Stage, m.Innings = api.InPlay, append(m.Innings, in)
	if !match.Valid(m) {
		t.Error("the second innings goes on: not valid")
	}
	m.Innings[0].Ending = api.NotEnded
	if match.Valid(m) {
		t.Error("both innings go on: valid")
	}
}

// memory is a part of memory.
type memory struct{ from, to uintptr }

// lists returns the memory of all lists in a value, their spare capacity included.
func lists(v reflect.Value) []memory {
	var l []memory
	switch v.Kind() {
	case reflect.Struct:
		for i := range v.NumField() {
			l = append(l, lists(v.Field(i))...)
		}
	case reflect.Slice:
		size := uintptr(v.Cap()) * v.Type().Elem().Size()
		if size > 0 {
			l = append(l, memory{v.Pointer(), v.Pointer() + size})
		}
		for i := range v.Len() {
			l = append(l, lists(v.Index(i))...)
		}
	}
	return l
}

// shares reports whether two lists in a value share memory.
func shares[T any](x T) bool {
	l := lists(reflect.ValueOf(x))
	for i, a := range l {
		for _, b := range l[:i] {
			if a.from < b.to && b.from < a.to {
				return true
			}
		}
	}
	return false
}

// pair is two states, of which none may share memory with the other one.
type pair struct{ a, b api.Match }

func TestSharesTells(t *testing.T) {
	m, _ := match.Started(limited(), 1)
	in, _ := innings.Begin(m.Rules, 1, 0, 0)
	m.Innings = []api.Innings{in}
	if shares(m) || !shares(pair{m, m}) || !shares(struct{ a, b []int }{in.Bowled, in.Bowled[1:2]}) {
		t.Error("shares does not tell what it should")
	}
	in.Before = in.Bowled[:0]
	if !shares(in) {
		t.Error("shares overlooks spare capacity")
	}
}
