package innings_test

import (
	"math"
	"math/rand"
	"reflect"
	"slices"
	"testing"

	"scorebook/api"
	"scorebook/innings"
	"scorebook/rules"
)

// P14.2

func TestBegin(t *testing.T) {
	for _, r := range ruleSets() {
		for side := 1; side <= 2; side++ {
			for _, target := range []int{0, 1, 77, 1_000_000} {
				for _, penalties := range []int{0, 5, 1_000_000} {
					in, e := innings.Begin(r, side, target, penalties)
					want := api.Innings{
						Side: side, Target: target, Overs: r.Overs, Runs: penalties,
						Extras:  api.Extras{Penalties: penalties},
						Batters: make([]api.Status, r.Side), Bowled: make([]int, r.Side), Subs: make([]bool, r.Side),
					}
					in.Bowlers, in.Before = noneIfEmpty(in.Bowlers), noneIfEmpty(in.Before)
					if e != api.OK || !reflect.DeepEqual(in, want) || !innings.Valid(r, in) {
						t.Fatalf("Begin(%s, %d, %d, %d) = %+v, %d", r.Name, side, target, penalties, in, e)
					}
				}
			}
		}
	}
}

// noneIfEmpty returns nil for an empty list.
func noneIfEmpty(l []int) []int {
	if len(l) == 0 {
		return nil
	}
	return l
}

func TestBeginErrors(t *testing.T) {
	nameless, wrong, tight := limited(), limited(), limited()
	nameless.Name, wrong.FollowOn, tight.Overs = "", 9, 90
	for _, x := range []struct {
		r                       api.Rules
		side, target, penalties int
		want                    api.Errno
	}{
		{nameless, 1, 0, 0, api.ErrName},
		{nameless, 3, -1, -1, api.ErrName},
		{wrong, 0, 0, 0, api.ErrArg},
		{tight, 1, -1, 0, api.ErrConflict},
		{api.Rules{Name: "R"}, 1, 0, 0, api.ErrRange},
		{limited(), 0, 0, 0, api.ErrRange},
		{limited(), 3, 0, 0, api.ErrRange},
		{limited(), math.MinInt, 0, 0, api.ErrRange},
		{limited(), 1, -1, 0, api.ErrRange},
		{limited(), 1, 1_000_001, 0, api.ErrRange},
		{limited(), 1, math.MaxInt, 0, api.ErrRange},
		{limited(), 2, 0, -1, api.ErrRange},
		{limited(), 2, 0, 1_000_001, api.ErrRange},
		{limited(), 2, 0, math.MinInt, api.ErrRange},
	} {
		in, e := innings.Begin(x.r, x.side, x.target, x.penalties)
		if e != x.want || !reflect.DeepEqual(in, api.Innings{}) {
			t.Errorf("Begin(%+v, %d, %d, %d) = %+v, %d, want %d", x.r, x.side, x.target, x.penalties, in, e, x.want)
		}
	}
}

// P14.3

func TestBalls(t *testing.T) {
	for _, x := range []struct{ complete, balls, inOver, want int }{
		{0, 6, 0, 0}, {0, 6, 5, 5}, {1, 6, 0, 6}, {12, 6, 3, 75}, {3, 4, 7, 19}, {2, 0, 1, 1}, {-2, 6, 1, -11}, {2, -3, 0, -6},
		{math.MaxInt, 2, 1, -1}, {1, math.MaxInt, 1, math.MinInt}, {0, 8, math.MinInt, math.MinInt},
	} {
		r := api.Rules{Balls: x.balls}
		if n := innings.Balls(r, api.Innings{Complete: x.complete, InOver: x.inOver}); n != x.want {
			t.Errorf("Balls of %+v = %d", x, n)
		}
	}
	in := playing()
	if n := innings.Balls(limited(), in); n != 6 || !isPlaying(in) {
		t.Errorf("Balls = %d, %+v", n, in)
	}
}

func TestPenalty(t *testing.T) {
	in := playing()
	after := innings.Penalty(in)
	want := playing()
	want.Runs, want.Extras.Penalties = 25, 10
	if !reflect.DeepEqual(after, want) || !isPlaying(in) {
		t.Errorf("Penalty = %+v", after)
	}
	scrawl(&after)
	if !isPlaying(in) {
		t.Errorf("memory is shared: %+v", in)
	}
	after = innings.Penalty(api.Innings{Runs: math.MaxInt, Extras: api.Extras{Penalties: -9}})
	if after.Runs != math.MinInt+4 || after.Extras.Penalties != -4 {
		t.Errorf("Penalty of any state = %+v", after)
	}
}

// leaves calls f for every number and flag in a value, the elements of lists included.
func leaves(v reflect.Value, path string, f func(path string, v reflect.Value)) {
	switch v.Kind() {
	case reflect.Struct:
		for i := range v.NumField() {
			leaves(v.Field(i), path+"."+v.Type().Field(i).Name, f)
		}
	case reflect.Slice, reflect.Array:
		for i := range v.Len() {
			leaves(v.Index(i), path+"[]", f)
		}
	default:
		f(path, v)
	}
}

// alter gives a number or a flag another value.
func alter(v reflect.Value) {
	switch v.Kind() {
	case reflect.Bool:
		v.SetBool(!v.Bool())
	case reflect.Int:
		v.SetInt(v.Int() + 1)
	default:
		v.SetUint(v.Uint() + 1)
	}
}

// scrawl changes everything in the lists of a state, their spare capacity included.
func scrawl(in *api.Innings) {
	v := reflect.ValueOf(in).Elem()
	for i := range v.NumField() {
		if f := v.Field(i); f.Kind() == reflect.Slice {
			leaves(f.Slice(0, f.Cap()), "", func(_ string, v reflect.Value) { alter(v) })
		}
	}
}

func TestSame(t *testing.T) {
	count := 0
	a, b := playing(), playing()
	leaves(reflect.ValueOf(&b).Elem(), "", func(path string, v reflect.Value) {
		old := reflect.ValueOf(v.Interface())
		alter(v)
		if innings.Same(a, b) || innings.Same(b, a) {
			t.Errorf("%s: no difference", path)
		}
		v.Set(old)
		if !innings.Same(a, b) || !innings.Same(b, a) {
			t.Errorf("%s: a difference", path)
		}
		count++
	})
	if count != 38 || !isPlaying(a) || !isPlaying(b) {
		t.Errorf("%d numbers and flags", count)
	}
}

func TestSameLists(t *testing.T) {
	for _, change := range []func(in *api.Innings){
		func(in *api.Innings) { in.Batters = in.Batters[:3] },
		func(in *api.Innings) { in.Bowlers = in.Bowlers[:1] },
		func(in *api.Innings) { in.Before = nil },
		func(in *api.Innings) { in.Bowled = append(in.Bowled, 0) },
		func(in *api.Innings) { in.Subs = nil },
	} {
		in := playing()
		change(&in)
		if innings.Same(in, playing()) || innings.Same(playing(), in) {
			t.Errorf("lists of different lengths are the same: %+v", in)
		}
	}
	empty := api.Innings{Batters: []api.Status{}, Bowlers: []int{}, Before: []int{}, Bowled: []int{}, Subs: []bool{}}
	if !innings.Same(empty, api.Innings{}) || !innings.Same(api.Innings{}, empty) {
		t.Error("nil and empty lists are not the same")
	}
}

func TestClone(t *testing.T) {
	in := playing()
	c := innings.Clone(in)
	if !reflect.DeepEqual(c, playing()) || !innings.Same(in, c) {
		t.Errorf("Clone = %+v", c)
	}
	scrawl(&c)
	if !isPlaying(in) {
		t.Errorf("memory is shared: %+v", in)
	}
	if c := innings.Clone(api.Innings{}); !innings.Same(c, api.Innings{}) {
		t.Errorf("Clone of nothing = %+v", c)
	}
}

// P14.4

// ending does what the document says of Ending.
func ending(r api.Rules, in api.Innings) api.Ending {
	if !innings.Valid(r, in) {
		return api.NotEnded
	}
	begun, left := false, 0
	for _, s := range in.Batters {
		begun = begun || s != api.Waiting
		if s == api.Waiting || s == api.Hurt {
			left++
		}
	}
	vacant := begun && (in.Striker == 0 || in.Other == 0)
	for _, x := range []struct {
		ending api.Ending
		holds  bool
	}{
		{api.TargetReached, in.Target > 0 && in.Runs >= in.Target},
		{api.AllOut, vacant && left == 0},
		{api.OversDone, in.Overs > 0 && in.Complete >= in.Overs},
	} {
		if x.holds {
			return x.ending
		}
	}
	return api.NotEnded
}

func TestEnding(t *testing.T) {
	s := rand.New(rand.NewSource(4))
	seen := map[api.Ending]int{}
	for range 20000 {
		for _, r := range ruleSets() {
			in := randomState(s, r)
			if s.Intn(20) == 0 {
				in.InOver = -1
			}
			got := innings.Ending(r, in)
			if got != ending(r, in) {
				t.Fatalf("Ending of %+v = %d, want %d", in, got, ending(r, in))
			}
			seen[got]++
		}
	}
	for e := range api.Declared {
		if seen[e] < 100 {
			t.Errorf("ending %d: met %d times", e, seen[e])
		}
	}
}

func TestEndingTells(t *testing.T) {
	for _, x := range []struct {
		name   string
		change func(in *api.Innings)
		want   api.Ending
	}{
		{"play goes on", func(in *api.Innings) {}, api.NotEnded},
		{"a run before the target", func(in *api.Innings) { in.Runs = 29 }, api.NotEnded},
		{"the target", func(in *api.Innings) { in.Runs = 30 }, api.TargetReached},
		{"more than the target", func(in *api.Innings) { in.Runs = 99 }, api.TargetReached},
		{"no target", func(in *api.Innings) { in.Target, in.Runs = 0, 99 }, api.NotEnded},
		{"a vacant place", func(in *api.Innings) { in.Striker, in.Batters[2], in.Wickets = 0, api.Dismissed, 2 }, api.NotEnded},
		{"nobody is left", func(in *api.Innings) { in.Batters[3], in.Wickets = api.Dismissed, 2 }, api.NotEnded},
		{"all out", func(in *api.Innings) {
			in.Striker, in.Batters[2], in.Batters[3], in.Wickets = 0, api.Dismissed, api.Dismissed, 3
		}, api.AllOut},
		{"an over before the last one", func(in *api.Innings) { in.Complete, in.InOver = 1, 3 }, api.NotEnded},
		{"the last over", func(in *api.Innings) { in.Complete = 2 }, api.OversDone},
		{"more than the last over", func(in *api.Innings) { in.Complete = 9 }, api.OversDone},
		{"all at once", func(in *api.Innings) {
			in.Other, in.Batters[0], in.Batters[3], in.Wickets, in.Runs, in.Complete = 0, api.Dismissed, api.Dismissed, 3, 30, 2
		}, api.TargetReached},
		{"all out in the last over", func(in *api.Innings) {
			in.Other, in.Batters[0], in.Batters[3], in.Wickets, in.Complete = 0, api.Dismissed, api.Dismissed, 3, 2
		}, api.AllOut},
		{"not valid", func(in *api.Innings) { in.Runs, in.Complete, in.Wickets = 30, 2, 0 }, api.NotEnded},
		{"the field is declared", func(in *api.Innings) { in.Ending = api.Declared }, api.NotEnded},
		{"the field is declared at the target", func(in *api.Innings) { in.Ending, in.Runs = api.Declared, 30 }, api.TargetReached},
	} {
		in := playing()
		x.change(&in)
		if e := innings.Ending(limited(), in); e != x.want {
			t.Errorf("%s: %d, want %d", x.name, e, x.want)
		}
	}
	in := playing()
	if innings.Ending(limited(), in) != api.NotEnded || !isPlaying(in) {
		t.Errorf("the argument became %+v", in)
	}
	in.Runs = 99
	if e := innings.Ending(api.Rules{}, in); e != api.NotEnded {
		t.Errorf("with rules that have an error: %d", e)
	}
}

func TestEndingWithoutLimit(t *testing.T) {
	in, _ := innings.Begin(open(), 1, 0, 0)
	in.Complete, in.Runs = bound, bound
	if e := innings.Ending(open(), in); e != api.NotEnded {
		t.Errorf("before the innings: %d", e)
	}
}

// The rules of the tests have no error, and those of the document's table lead to a valid beginning.

func TestRulesOfTheTests(t *testing.T) {
	for _, name := range []string{"TEST", "ONEDAY", "TWENTY"} {
		r, _ := rules.Standard(name)
		in, e := innings.Begin(r, 2, 300, 10)
		if e != api.OK || !innings.Valid(r, in) || len(in.Subs) != 11 || slices.Contains(in.Subs, true) || in.Overs != r.Overs {
			t.Errorf("%s: %+v, %d", name, in, e)
		}
	}
	for _, r := range ruleSets() {
		if e := rules.Check(r); e != api.OK {
			t.Errorf("%+v: %d", r, e)
		}
	}
}
