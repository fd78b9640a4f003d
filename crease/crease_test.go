package crease_test

import (
	"math"
	"reflect"
	"slices"
	"testing"

	"scorebook/api"
	"scorebook/crease"
)

// reason is a law with what has to hold for it to refuse a call.
type reason struct {
	law   api.Law
	holds bool
}

// first returns the first law that refuses, in the order of the document.
func first(l ...reason) api.Law {
	for _, x := range l {
		if x.holds {
			return x.law
		}
	}
	return api.Legal
}

// players are numbers of players in and around those of the sides of the tests, and the extremes.
var players = []int{math.MinInt, -3, -1, 0, 1, 2, 3, 4, 5, math.MaxInt}

// places are what the places of the states of the tests have.
var places = []int{-1, 0, 1, 2, 3, 5}

// busy returns a state in which no field but those given may be zero; its lists have spare capacity with marks in it.
func busy(batters []api.Status, striker, other int) api.Innings {
	return api.Innings{
		Side: 1, Target: 2, Overs: 3, Runs: 4, Wickets: 5,
		Extras:   api.Extras{Wides: 6, NoBalls: 7, Byes: 8, LegByes: 9, Penalties: 10},
		Complete: 11, InOver: 12, Striker: striker, Other: other,
		Batters: append(slices.Clone(batters), 77, 77)[:len(batters)],
		Bowler:  15,
		Bowlers: append([]int{16, 17}, 77)[:2], Before: append([]int{18}, 77)[:1], Fresh: true,
		Bowled: append([]int{19, 20}, 77)[:2], FreeHit: true, BallAge: 21,
		Keeper: 22, Outside: 23, Subs: append([]bool{true, false}, true)[:2],
		Reviews: [2]int{24, 25}, Ending: api.Declared,
	}
}

// scrawl changes all elements of the lists of a state, those beyond its length included.
func scrawl(in api.Innings) {
	for _, l := range [][]int{in.Bowlers, in.Before, in.Bowled} {
		for i := range l[:cap(l)] {
			l[:cap(l)][i] += 1000
		}
	}
	for i := range in.Batters[:cap(in.Batters)] {
		in.Batters[:cap(in.Batters)][i] += 100
	}
	for i := range in.Subs[:cap(in.Subs)] {
		in.Subs[:cap(in.Subs)][i] = !in.Subs[:cap(in.Subs)][i]
	}
}

// untouched reports whether a state that busy gave is as it was, the marks included.
func untouched(in api.Innings, batters []api.Status, striker, other int) bool {
	marks := in.Subs[:3][2] && in.Bowlers[:3][2] == 77 && in.Before[:2][1] == 77 && in.Bowled[:3][2] == 77
	n := len(in.Batters)
	return reflect.DeepEqual(in, busy(batters, striker, other)) && marks && slices.Equal(in.Batters[n:n+2], []api.Status{77, 77})
}

// sides calls f for all statuses of sides of up to 3 players; one of the statuses does not exist.
func sides(f func(batters []api.Status)) {
	statuses := []api.Status{api.Waiting, api.Batting, api.Dismissed, api.Hurt, 9}
	count := 1
	for n := range 4 {
		for code := range count {
			batters := make([]api.Status, n)
			for i := range batters {
				batters[i] = statuses[code%5]
				code /= 5
			}
			f(batters)
		}
		count *= 5
	}
}

// everyState calls f for all statuses and places of the tests.
func everyState(f func(batters []api.Status, striker, other int)) {
	sides(func(batters []api.Status) {
		for _, striker := range places {
			for _, other := range places {
				f(batters, striker, other)
			}
		}
	})
}

func is(batters []api.Status, p int) bool { return p > 0 && p <= len(batters) }

// has reports whether a player has a status.
func has(batters []api.Status, p int, s api.Status) bool { return is(batters, p) && batters[p-1] == s }

func begun(batters []api.Status) bool {
	return len(batters) > 0 && slices.Max(batters) > api.Waiting
}

// left returns who may come in.
func left(batters []api.Status) []int {
	var l []int
	for _, p := range players {
		if has(batters, p, api.Waiting) || has(batters, p, api.Hurt) {
			l = append(l, p)
		}
	}
	return l
}

// check compares a call with the law that should refuse it, and with the change that it should make.
func check(t *testing.T, batters []api.Status, striker, other int, want api.Law, call func(in api.Innings) (api.Innings, api.Law), change func(in *api.Innings)) {
	t.Helper()
	in := busy(batters, striker, other)
	after, law := call(in)
	expected := busy(batters, striker, other)
	if want == api.Legal {
		change(&expected)
	}
	if law != want || !reflect.DeepEqual(after, expected) {
		t.Fatalf("batters %v, striker %d, other %d: %+v, law %d, want %+v, law %d", batters, striker, other, after, law, expected, want)
	}
	scrawl(after)
	if !untouched(in, batters, striker, other) {
		t.Fatalf("batters %v, striker %d, other %d: the argument became %+v", batters, striker, other, in)
	}
}

// P12.1

func TestVacantAndLeft(t *testing.T) {
	everyState(func(batters []api.Status, striker, other int) {
		in := busy(batters, striker, other)
		want := begun(batters) && striker*other == 0
		if v := crease.Vacant(in); v != want {
			t.Fatalf("Vacant, batters %v, striker %d, other %d = %v", batters, striker, other, v)
		}
		l := crease.Left(in)
		if !slices.Equal(l, left(batters)) {
			t.Fatalf("Left of %v = %v, want %v", batters, l, left(batters))
		}
		for i := range l {
			l[i] = 99
		}
		if !untouched(in, batters, striker, other) || !slices.Equal(crease.Left(in), left(batters)) {
			t.Fatalf("the argument became %+v", in)
		}
	})
}

func TestVacantBeforeTheInnings(t *testing.T) {
	in := api.Innings{Batters: make([]api.Status, 3)}
	if crease.Vacant(in) || !slices.Equal(crease.Left(in), []int{1, 2, 3}) {
		t.Errorf("before the innings: %v, %v", crease.Vacant(in), crease.Left(in))
	}
	for _, s := range []api.Status{api.Batting, api.Dismissed, api.Hurt, 4, 255} {
		in.Batters[2] = s
		if !crease.Vacant(in) {
			t.Errorf("a player of status %d: not vacant", s)
		}
	}
	in.Striker, in.Other = -1, 9
	if crease.Vacant(in) {
		t.Errorf("places of players who do not exist are vacant")
	}
	if crease.Vacant(api.Innings{}) || len(crease.Left(api.Innings{})) != 0 {
		t.Errorf("a side of nobody: %v, %v", crease.Vacant(api.Innings{}), crease.Left(api.Innings{}))
	}
}

// P12.2

func TestOpen(t *testing.T) {
	sides(func(batters []api.Status) {
		for _, p := range players {
			for _, q := range players {
				want := first(
					reason{api.LawPhase, begun(batters)},
					reason{api.LawPlayer, !is(batters, p) || !is(batters, q)},
					reason{api.LawCrease, p == q},
				)
				for _, striker := range []int{0, 2} {
					check(t, batters, striker, 1, want,
						func(in api.Innings) (api.Innings, api.Law) { return crease.Open(in, p, q) },
						func(in *api.Innings) {
							in.Batters[p-1], in.Batters[q-1] = api.Batting, api.Batting
							in.Striker, in.Other = p, q
						})
				}
			}
		}
	})
}

func TestOpenLaws(t *testing.T) {
	in := api.Innings{Batters: make([]api.Status, 4)}
	for _, x := range []struct {
		a, b int
		want api.Law
	}{{3, 1, api.Legal}, {2, 2, api.LawCrease}, {5, 5, api.LawPlayer}, {0, 1, api.LawPlayer}, {4, 5, api.LawPlayer}} {
		if _, law := crease.Open(in, x.a, x.b); law != x.want {
			t.Errorf("Open(%d, %d): law %d, want %d", x.a, x.b, law, x.want)
		}
	}
	in, _ = crease.Open(in, 3, 1)
	want := []api.Status{api.Batting, api.Waiting, api.Batting, api.Waiting}
	if in.Striker != 3 || in.Other != 1 || !slices.Equal(in.Batters, want) || in.Wickets != 0 {
		t.Errorf("after Open: %+v", in)
	}
	if _, law := crease.Open(in, 9, 9); law != api.LawPhase {
		t.Errorf("Open in an innings that has begun: law %d", law)
	}
}

// P12.3

// ran does what the document says of Ran: the places are held as a pair, and the batter who is out by the index in it.
func ran(in *api.Innings, d api.Delivery) {
	pair := [2]int{in.Striker, in.Other}
	at := -1
	if d.How != api.NotOut && (d.Victim == 1 || d.Victim == 2) && pair[d.Victim-1] != 0 {
		at = d.Victim - 1
	}
	exchanges := d.Runs & 1
	if d.Crossed {
		exchanges++
	}
	if exchanges == 1 {
		pair[0], pair[1] = pair[1], pair[0]
		if at >= 0 {
			at = 1 - at
		}
	}
	if at >= 0 {
		if is(in.Batters, pair[at]) {
			in.Batters[pair[at]-1] = api.Dismissed
		}
		pair[at] = 0
		in.Wickets++
	}
	in.Striker, in.Other = pair[0], pair[1]
}

func TestRan(t *testing.T) {
	runs := []int{math.MinInt, -3, -2, -1, 0, 1, 2, 3, 7, 8, math.MaxInt}
	for _, batters := range [][]api.Status{{}, {api.Waiting, api.Hurt}, {api.Batting, api.Batting, api.Dismissed, 9}} {
		for _, striker := range places {
			for _, other := range places {
				for _, n := range runs {
					checkRan(t, batters, striker, other, n)
				}
			}
		}
	}
}

// checkRan compares Ran for a number of runs, for all ways of being out and all batters.
func checkRan(t *testing.T, batters []api.Status, striker, other, runs int) {
	t.Helper()
	for _, crossed := range []bool{false, true} {
		for _, how := range []api.How{api.NotOut, api.Bowled, api.RunOut, api.RetiredOut, 11, 255} {
			for _, victim := range []int{math.MinInt, -1, 0, 1, 2, 3, math.MaxInt} {
				d := api.Delivery{Runs: runs, Crossed: crossed, How: how, Victim: victim, Short: 1, Boundary: 4}
				check(t, batters, striker, other, api.Legal,
					func(in api.Innings) (api.Innings, api.Law) { return crease.Ran(in, d), api.Legal },
					func(in *api.Innings) { ran(in, d) })
			}
		}
	}
}

func TestRanTells(t *testing.T) {
	in := api.Innings{Batters: []api.Status{api.Batting, api.Batting, api.Waiting, api.Waiting}, Striker: 1, Other: 2}
	for _, x := range []struct {
		d                       api.Delivery
		striker, other, wickets int
	}{
		{api.Delivery{Runs: 0}, 1, 2, 0},
		{api.Delivery{Runs: 1}, 2, 1, 0},
		{api.Delivery{Runs: 2}, 1, 2, 0},
		{api.Delivery{Runs: 3, Short: 1}, 2, 1, 0},
		{api.Delivery{Boundary: 4}, 1, 2, 0},
		{api.Delivery{Runs: 1, Boundary: 4}, 2, 1, 0},
		{api.Delivery{Victim: 1}, 1, 2, 0},
		{api.Delivery{How: api.Bowled, Victim: 1}, 0, 2, 1},
		{api.Delivery{How: api.RunOut, Victim: 2}, 1, 0, 1},
		{api.Delivery{How: api.RunOut, Victim: 1, Crossed: true}, 2, 0, 1},
		{api.Delivery{How: api.RunOut, Victim: 2, Crossed: true}, 0, 1, 1},
		{api.Delivery{How: api.RunOut, Victim: 1, Runs: 1}, 2, 0, 1},
		{api.Delivery{How: api.RunOut, Victim: 2, Runs: 1}, 0, 1, 1},
		{api.Delivery{How: api.RunOut, Victim: 1, Runs: 1, Crossed: true}, 0, 2, 1},
		{api.Delivery{How: api.RunOut, Victim: 2, Runs: 1, Crossed: true}, 1, 0, 1},
		{api.Delivery{How: api.RunOut, Victim: 3}, 1, 2, 0},
		{api.Delivery{How: api.RunOut, Victim: 0, Runs: 1}, 2, 1, 0},
	} {
		after := crease.Ran(in, x.d)
		out := slices.Index(after.Batters, api.Dismissed) + 1
		if after.Striker != x.striker || after.Other != x.other || after.Wickets != x.wickets || out != x.wickets*x.d.Victim {
			t.Errorf("after %+v: %+v", x.d, after)
		}
	}
}

func TestRanWithVacantPlaces(t *testing.T) {
	in := api.Innings{Batters: []api.Status{api.Batting, api.Dismissed}, Striker: 1, Wickets: 1}
	after := crease.Ran(in, api.Delivery{How: api.RunOut, Victim: 2, Runs: 1})
	if after.Striker != 0 || after.Other != 1 || after.Wickets != 1 || after.Batters[0] != api.Batting {
		t.Errorf("nobody is out at a vacant place: %+v", after)
	}
	in.Striker = 7
	after = crease.Ran(in, api.Delivery{How: api.Bowled, Victim: 1})
	if after.Striker != 0 || after.Wickets != 2 || after.Batters[0] != api.Batting {
		t.Errorf("a player who does not exist is out: %+v", after)
	}
}

// P12.4

func TestChange(t *testing.T) {
	everyState(func(batters []api.Status, striker, other int) {
		check(t, batters, striker, other, api.Legal,
			func(in api.Innings) (api.Innings, api.Law) { return crease.Change(in), api.Legal },
			func(in *api.Innings) { in.Striker, in.Other = other, striker })
	})
}

// P12.5

// enterLaw is the law for a new batter, as the document lists them.
func enterLaw(batters []api.Status, striker, other, p int) api.Law {
	vacant := begun(batters) && (striker == 0 || other == 0)
	return first(
		reason{api.LawPlayer, !is(batters, p)},
		reason{api.LawCrease, !vacant || has(batters, p, api.Batting)},
		reason{api.LawOut, has(batters, p, api.Dismissed)},
	)
}

func TestEnter(t *testing.T) {
	everyState(func(batters []api.Status, striker, other int) {
		for _, p := range players {
			check(t, batters, striker, other, enterLaw(batters, striker, other, p),
				func(in api.Innings) (api.Innings, api.Law) { return crease.Enter(in, p) },
				func(in *api.Innings) {
					in.Batters[p-1] = api.Batting
					switch 0 {
					case striker:
						in.Striker = p
					case other:
						in.Other = p
					}
				})
		}
	})
}

func TestEnterLaws(t *testing.T) {
	in := api.Innings{Batters: []api.Status{api.Batting, api.Dismissed, api.Hurt, api.Waiting}, Striker: 1, Wickets: 1}
	for p, want := range map[int]api.Law{0: api.LawPlayer, 5: api.LawPlayer, 1: api.LawCrease, 2: api.LawOut, 3: api.Legal, 4: api.Legal} {
		after, law := crease.Enter(in, p)
		if law != want {
			t.Errorf("Enter(%d): law %d, want %d", p, law, want)
		}
		if law == api.Legal && (after.Striker != 1 || after.Other != p || after.Batters[p-1] != api.Batting || after.Wickets != 1) {
			t.Errorf("Enter(%d): %+v", p, after)
		}
	}
	in.Striker, in.Other = 0, 0
	if after, law := crease.Enter(in, 4); law != api.Legal || after.Striker != 4 || after.Other != 0 {
		t.Errorf("Enter with two vacant places: %+v, law %d", after, law)
	}
	in.Striker, in.Other = 1, 3
	if _, law := crease.Enter(in, 2); law != api.LawCrease {
		t.Errorf("Enter without a vacant place: law %d", law)
	}
	if _, law := crease.Enter(api.Innings{Batters: make([]api.Status, 2)}, 1); law != api.LawCrease {
		t.Errorf("Enter before the innings: law %d", law)
	}
}

// P12.6

func TestTimeOut(t *testing.T) {
	everyState(func(batters []api.Status, striker, other int) {
		for _, p := range players {
			check(t, batters, striker, other, enterLaw(batters, striker, other, p),
				func(in api.Innings) (api.Innings, api.Law) { return crease.TimeOut(in, p) },
				func(in *api.Innings) {
					in.Batters[p-1] = api.Dismissed
					in.Wickets++
				})
		}
	})
}

func TestTimeOutLaws(t *testing.T) {
	in := api.Innings{Batters: []api.Status{api.Batting, api.Dismissed, api.Hurt, api.Waiting}, Striker: 1, Wickets: 1}
	for p, want := range map[int]api.Law{0: api.LawPlayer, 5: api.LawPlayer, 1: api.LawCrease, 2: api.LawOut, 3: api.Legal, 4: api.Legal} {
		after, law := crease.TimeOut(in, p)
		if law != want {
			t.Errorf("TimeOut(%d): law %d, want %d", p, law, want)
		}
		if law == api.Legal && (after.Other != 0 || after.Batters[p-1] != api.Dismissed || after.Wickets != 2) {
			t.Errorf("TimeOut(%d): %+v", p, after)
		}
	}
}

// P12.7

func TestRetire(t *testing.T) {
	everyState(func(batters []api.Status, striker, other int) {
		for _, p := range players {
			for _, hurt := range []bool{false, true} {
				want := first(
					reason{api.LawPlayer, !is(batters, p)},
					reason{api.LawWaiting, striker == 0 || other == 0},
					reason{api.LawCrease, p != striker && p != other},
					reason{api.LawRetired, hurt && len(left(batters)) == 0},
				)
				check(t, batters, striker, other, want,
					func(in api.Innings) (api.Innings, api.Law) { return crease.Retire(in, p, hurt) },
					func(in *api.Innings) { retired(in, p, hurt) })
			}
		}
	})
}

// retired does what the document says of a batter who retires.
func retired(in *api.Innings, p int, hurt bool) {
	switch p {
	case in.Striker:
		in.Striker = 0
	case in.Other:
		in.Other = 0
	}
	in.Batters[p-1] = api.Hurt
	if !hurt {
		in.Batters[p-1] = api.Dismissed
		in.Wickets++
	}
}

func TestRetireLaws(t *testing.T) {
	in := api.Innings{Batters: []api.Status{api.Batting, api.Batting, api.Dismissed, api.Waiting}, Striker: 2, Other: 1, Wickets: 1}
	for p, want := range map[int]api.Law{0: api.LawPlayer, 5: api.LawPlayer, 3: api.LawCrease, 4: api.LawCrease, 1: api.Legal, 2: api.Legal} {
		for _, hurt := range []bool{false, true} {
			if _, law := crease.Retire(in, p, hurt); law != want {
				t.Errorf("Retire(%d, %v): law %d, want %d", p, hurt, law, want)
			}
		}
	}
	hurt, _ := crease.Retire(in, 2, true)
	if hurt.Striker != 0 || hurt.Other != 1 || hurt.Batters[1] != api.Hurt || hurt.Wickets != 1 {
		t.Errorf("retired hurt: %+v", hurt)
	}
	if _, law := crease.Retire(hurt, 1, false); law != api.LawWaiting {
		t.Errorf("the other batter retires before a new one has come: law %d", law)
	}
	out, _ := crease.Retire(in, 1, false)
	if out.Striker != 2 || out.Other != 0 || out.Batters[0] != api.Dismissed || out.Wickets != 2 {
		t.Errorf("retired out: %+v", out)
	}
	in.Batters[3] = api.Dismissed
	if _, law := crease.Retire(in, 1, true); law != api.LawRetired {
		t.Errorf("one of the last pair retires hurt: law %d", law)
	}
	if _, law := crease.Retire(in, 1, false); law != api.Legal {
		t.Errorf("one of the last pair retires out: law %d", law)
	}
	in.Striker, in.Other = 1, 1
	if after, law := crease.Retire(in, 1, false); law != api.Legal || after.Striker != 0 || after.Other != 1 {
		t.Errorf("a batter with both places retires: %+v, law %d", after, law)
	}
	if _, law := crease.Retire(api.Innings{Batters: make([]api.Status, 2)}, 1, false); law != api.LawWaiting {
		t.Errorf("Retire before the innings: law %d", law)
	}
}

// The examples of the document.

func TestExamples(t *testing.T) {
	in := api.Innings{Batters: make([]api.Status, 4)}
	in, _ = crease.Open(in, 1, 2)
	single := crease.Ran(in, api.Delivery{Type: api.Fair, Source: api.OffBat, Runs: 1})
	if single.Striker != 2 || single.Other != 1 {
		t.Errorf("after a single: %+v", single)
	}
	d := api.Delivery{Type: api.Fair, Source: api.OffBat, Runs: 1, Crossed: true, How: api.RunOut, Victim: 1, Fielder: 3}
	out := crease.Ran(in, d)
	if out.Striker != 0 || out.Other != 2 || out.Batters[0] != api.Dismissed || out.Wickets != 1 {
		t.Errorf("after the run out: %+v", out)
	}
	in, law := crease.Enter(out, 3)
	if law != api.Legal || in.Striker != 3 || in.Other != 2 {
		t.Errorf("after Enter: %+v, law %d", in, law)
	}
	in, law = crease.Retire(in, 2, true)
	if law != api.Legal || !slices.Equal(crease.Left(in), []int{2, 4}) {
		t.Errorf("after Retire: %v, law %d", crease.Left(in), law)
	}
	in, law = crease.Enter(in, 2)
	if law != api.Legal || in.Striker != 3 || in.Other != 2 || in.Batters[1] != api.Batting {
		t.Errorf("after the return: %+v, law %d", in, law)
	}
}
