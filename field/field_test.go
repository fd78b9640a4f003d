package field_test

import (
	"math"
	"reflect"
	"slices"
	"testing"

	"scorebook/api"
	"scorebook/field"
)

// reason is a law with what has to hold for it to refuse a call.
type reason struct {
	law   api.Law
	holds bool
}

// first returns the first law that refuses, in the order of the document.
func first(l ...reason) api.Law {
	for _, x := range l {
		if x.holds {
			return x.law
		}
	}
	return api.Legal
}

// players are numbers of players in and around those of the sides of the tests, and the extremes.
var players = []int{math.MinInt, -7, -1, 0, 1, 2, 3, 4, 5, 6, 12, math.MaxInt}

// busy returns a state in which no field is zero; its lists have spare capacity with marks in it.
func busy(subs []bool, keeper, bowler int) api.Innings {
	return api.Innings{
		Side: 1, Target: 2, Overs: 3, Runs: 4, Wickets: 5,
		Extras:   api.Extras{Wides: 6, NoBalls: 7, Byes: 8, LegByes: 9, Penalties: 10},
		Complete: 11, InOver: 12, Striker: 13, Other: 14,
		Batters: append([]api.Status{api.Batting, api.Hurt}, 77)[:2],
		Bowler:  bowler,
		Bowlers: append([]int{16, 17}, 77)[:2], Before: append([]int{18}, 77)[:1], Fresh: true,
		Bowled: append([]int{19, 20}, 77)[:2], FreeHit: true, BallAge: 21,
		Keeper: keeper, Outside: 23, Subs: append(slices.Clone(subs), true, true)[:len(subs)],
		Reviews: [2]int{24, 25}, Ending: api.Declared,
	}
}

// scrawl changes all elements of the lists of a state, those beyond its length included.
func scrawl(in api.Innings) {
	for _, l := range [][]int{in.Bowlers, in.Before, in.Bowled} {
		for i := range l[:cap(l)] {
			l[:cap(l)][i] += 1000
		}
	}
	for i := range in.Batters[:cap(in.Batters)] {
		in.Batters[:cap(in.Batters)][i] += 100
	}
	for i := range in.Subs[:cap(in.Subs)] {
		in.Subs[:cap(in.Subs)][i] = !in.Subs[:cap(in.Subs)][i]
	}
}

// untouched reports whether a state that busy gave is as it was, the marks included.
func untouched(in api.Innings, subs []bool, keeper, bowler int) bool {
	marks := in.Batters[:3][2] == 77 && in.Bowlers[:3][2] == 77 && in.Before[:2][1] == 77 && in.Bowled[:3][2] == 77
	n := len(in.Subs)
	return reflect.DeepEqual(in, busy(subs, keeper, bowler)) && marks && in.Subs[:n+2][n] && in.Subs[:n+2][n+1]
}

// sides calls f for all states of the replaced players of sides of up to 4 players.
func sides(f func(subs []bool)) {
	for n := range 5 {
		for set := range 1 << n {
			subs := make([]bool, n)
			for i := range subs {
				subs[i] = set>>i&1 == 1
			}
			f(subs)
		}
	}
}

// everyState calls f for states with all replaced players, keepers and bowlers of the tests.
func everyState(f func(subs []bool, keeper, bowler int)) {
	sides(func(subs []bool) {
		for _, keeper := range []int{-1, 0, 1, 2, 3, 5} {
			for _, bowler := range []int{-1, 0, 1, 2, 4, 5} {
				f(subs, keeper, bowler)
			}
		}
	})
}

func is(subs []bool, player int) bool { return player > 0 && player <= len(subs) }

func out(subs []bool, player int) bool { return is(subs, player) && subs[player-1] }

// check compares a call with the law that should refuse it, and with the change that it should make.
func check(t *testing.T, subs []bool, keeper, bowler int, want api.Law, call func(in api.Innings) (api.Innings, api.Law), change func(in *api.Innings)) {
	t.Helper()
	in := busy(subs, keeper, bowler)
	after, law := call(in)
	expected := busy(subs, keeper, bowler)
	if want == api.Legal {
		change(&expected)
	}
	if law != want || !reflect.DeepEqual(after, expected) {
		t.Fatalf("subs %v, keeper %d, bowler %d: %+v, law %d, want %+v, law %d", subs, keeper, bowler, after, law, expected, want)
	}
	scrawl(after)
	if !untouched(in, subs, keeper, bowler) {
		t.Fatalf("subs %v, keeper %d, bowler %d: the argument became %+v", subs, keeper, bowler, in)
	}
}

// P11.1

func TestKeeper(t *testing.T) {
	everyState(func(subs []bool, keeper, bowler int) {
		for _, p := range players {
			want := first(
				reason{api.LawPlayer, !is(subs, p)},
				reason{api.LawSubstitute, out(subs, p)},
				reason{api.LawKeeper, p == bowler || p == keeper},
			)
			check(t, subs, keeper, bowler, want,
				func(in api.Innings) (api.Innings, api.Law) { return field.Keeper(in, p) },
				func(in *api.Innings) { in.Keeper = p })
		}
	})
}

func TestKeeperLaws(t *testing.T) {
	in := api.Innings{Subs: []bool{false, true, false, false}, Bowler: 3}
	for _, x := range []struct {
		player int
		law    api.Law
	}{{0, api.LawPlayer}, {5, api.LawPlayer}, {2, api.LawSubstitute}, {3, api.LawKeeper}, {1, api.Legal}} {
		if after, law := field.Keeper(in, x.player); law != x.law || law == api.Legal && after.Keeper != x.player {
			t.Errorf("Keeper(%d) = %+v, %d, want law %d", x.player, after, law, x.law)
		}
	}
	in.Keeper = 1
	if _, law := field.Keeper(in, 1); law != api.LawKeeper {
		t.Errorf("the keeper as the keeper: law %d", law)
	}
	if after, law := field.Keeper(in, 4); law != api.Legal || after.Keeper != 4 {
		t.Errorf("a new keeper: %+v, law %d", after, law)
	}
	// The law on substitutes goes before that on the bowler and the keeper.
	in.Keeper, in.Bowler = 2, 2
	if _, law := field.Keeper(in, 2); law != api.LawSubstitute {
		t.Errorf("a replaced keeper as the keeper: law %d", law)
	}
}

// P11.2

func TestSubstitute(t *testing.T) {
	everyState(func(subs []bool, keeper, bowler int) {
		for _, p := range players {
			for _, on := range []bool{false, true} {
				want := first(
					reason{api.LawPlayer, !is(subs, p)},
					reason{api.LawSubstitute, out(subs, p) == on},
				)
				check(t, subs, keeper, bowler, want,
					func(in api.Innings) (api.Innings, api.Law) { return field.Substitute(in, p, on) },
					func(in *api.Innings) {
						in.Subs[p-1] = on
						if on && p == keeper {
							in.Keeper = 0
						}
						if on && p == bowler {
							in.Bowler = 0
						}
					})
			}
		}
	})
}

func TestSubstituteReturns(t *testing.T) {
	in := api.Innings{Subs: make([]bool, 4), Keeper: 2, Bowler: 2}
	gone, law := field.Substitute(in, 2, true)
	if law != api.Legal || gone.Keeper != 0 || gone.Bowler != 0 || !gone.Subs[1] {
		t.Errorf("the keeper is replaced: %+v, law %d", gone, law)
	}
	if _, law := field.Substitute(gone, 2, true); law != api.LawSubstitute {
		t.Errorf("a replaced player is replaced: law %d", law)
	}
	// A player who returns keeps what the state says of the player, even if it is not well-formed.
	gone.Keeper, gone.Bowler = 2, 2
	back, law := field.Substitute(gone, 2, false)
	if law != api.Legal || back.Keeper != 2 || back.Bowler != 2 || back.Subs[1] {
		t.Errorf("the player returns: %+v, law %d", back, law)
	}
	if _, law := field.Substitute(in, 2, false); law != api.LawSubstitute {
		t.Errorf("a player who is not replaced returns: law %d", law)
	}
}

// P11.3

func TestOutside(t *testing.T) {
	for size := range 13 {
		subs := make([]bool, size)
		for _, n := range append([]int{math.MinInt, math.MaxInt}, span(-3, 15)...) {
			want := first(reason{api.LawField, n < 0 || n+2 > size || n > 100})
			check(t, subs, 1, 2, want,
				func(in api.Innings) (api.Innings, api.Law) { return field.Outside(in, n) },
				func(in *api.Innings) { in.Outside = n })
		}
	}
}

func span(from, to int) []int {
	var l []int
	for n := from; n <= to; n++ {
		l = append(l, n)
	}
	return l
}

func TestOutsideLaws(t *testing.T) {
	in := api.Innings{Subs: []bool{true, true, true, false}, Outside: 1}
	for n, want := range map[int]api.Law{-1: api.LawField, 0: api.Legal, 1: api.Legal, 2: api.Legal, 3: api.LawField} {
		after, law := field.Outside(in, n)
		if law != want || law == api.Legal && after.Outside != n || law != api.Legal && after.Outside != 1 {
			t.Errorf("Outside(%d) = %+v, law %d, want %d", n, after, law, want)
		}
	}
	for size := range 2 {
		if _, law := field.Outside(api.Innings{Subs: make([]bool, size)}, 0); law != api.LawField {
			t.Errorf("nobody outside in a side of %d: law %d", size, law)
		}
	}
}

// P11.4

func TestReadyKeeper(t *testing.T) {
	everyState(func(subs []bool, keeper, bowler int) {
		for _, allowed := range []int{22, 23} {
			in := busy(subs, keeper, bowler)
			want := first(
				reason{api.LawKeeper, !is(subs, keeper) || out(subs, keeper) || keeper == bowler},
				reason{api.LawField, allowed == 22},
			)
			if law := field.Ready(api.Rules{Outside: allowed}, in); law != want {
				t.Fatalf("subs %v, keeper %d, bowler %d, %d allowed: law %d, want %d", subs, keeper, bowler, allowed, law, want)
			}
			if !untouched(in, subs, keeper, bowler) {
				t.Fatalf("the argument became %+v", in)
			}
		}
	})
}

func TestReadyOutside(t *testing.T) {
	r := api.Rules{Outside: 5, Power: []api.Phase{{From: 1, To: 2, Outside: 2}, {From: 4, To: 4, Outside: 0}}}
	allowed := []int{2, 2, 5, 0, 5, 5}
	for complete, most := range allowed {
		for n := range 9 {
			// The balls of the present over do not count.
			in := api.Innings{Subs: make([]bool, 11), Keeper: 3, Bowler: 4, Complete: complete, InOver: 5, Outside: n}
			want := first(reason{api.LawField, n > most})
			if law := field.Ready(r, in); law != want {
				t.Errorf("%d outside after %d overs: law %d, want %d", n, complete, law, want)
			}
		}
	}
	in := api.Innings{Subs: make([]bool, 2), Keeper: 1, Outside: math.MaxInt, Complete: math.MaxInt}
	if law := field.Ready(api.Rules{Outside: math.MaxInt}, in); law != api.Legal {
		t.Errorf("as many outside as are allowed: law %d", law)
	}
	in.Outside = math.MinInt
	if law := field.Ready(api.Rules{Outside: -1}, in); law != api.Legal {
		t.Errorf("fewer outside than are allowed: law %d", law)
	}
}

// P11.5

func TestNamed(t *testing.T) {
	sides(func(subs []bool) {
		for _, keeper := range []int{0, 1, 2, 4} {
			for _, f := range players {
				for _, s := range players {
					checkNamed(t, subs, keeper, f, s)
				}
			}
		}
	})
}

// checkNamed compares the law for both fielders of a delivery, for all ways of being out.
func checkNamed(t *testing.T, subs []bool, keeper, f, s int) {
	t.Helper()
	for _, sub := range []bool{false, true} {
		for how := api.NotOut; how <= api.RetiredOut+1; how++ {
			in := busy(subs, keeper, 1)
			want := first(
				reason{api.LawPlayer, f > 0 && !is(subs, f)},
				reason{api.LawSubstitute, f > 0 && out(subs, f) != sub},
				reason{api.LawPlayer, s > 0 && !is(subs, s)},
				reason{api.LawSubstitute, s > 0 && out(subs, s)},
				reason{api.LawKeeper, how == api.Stumped && max(f, 0) != keeper},
			)
			d := api.Delivery{How: how, Fielder: f, Second: s, Sub: sub}
			if law := field.Named(in, d); law != want {
				t.Fatalf("Named(%+v), subs %v, keeper %d: law %d, want %d", d, subs, keeper, law, want)
			}
			if !untouched(in, subs, keeper, 1) {
				t.Fatalf("the argument became %+v", in)
			}
		}
	}
}

func TestNamedOrder(t *testing.T) {
	in := api.Innings{Subs: []bool{false, true, false, true}, Keeper: 3}
	for _, x := range []struct {
		d    api.Delivery
		want api.Law
	}{
		{api.Delivery{}, api.Legal},
		{api.Delivery{Sub: true}, api.Legal},
		{api.Delivery{How: api.Stumped, Fielder: 5, Second: 2}, api.LawPlayer},
		{api.Delivery{How: api.Stumped, Fielder: 2, Second: 9}, api.LawSubstitute},
		{api.Delivery{How: api.Stumped, Fielder: 1, Second: 9}, api.LawPlayer},
		{api.Delivery{How: api.Stumped, Fielder: 1, Second: 2}, api.LawSubstitute},
		{api.Delivery{How: api.Stumped, Fielder: 1}, api.LawKeeper},
		{api.Delivery{How: api.Stumped}, api.LawKeeper},
		{api.Delivery{How: api.Stumped, Fielder: 3}, api.Legal},
		{api.Delivery{How: api.RunOut, Fielder: 2, Second: 1, Sub: true}, api.Legal},
		{api.Delivery{How: api.RunOut, Fielder: 2, Second: 4, Sub: true}, api.LawSubstitute},
		{api.Delivery{How: api.RunOut, Fielder: 1, Second: 3}, api.Legal},
		{api.Delivery{How: api.RunOut, Fielder: -1, Second: -1, Sub: true}, api.Legal},
		{api.Delivery{How: api.Caught, Fielder: 1, Sub: true}, api.LawSubstitute},
	} {
		if law := field.Named(in, x.d); law != x.want {
			t.Errorf("Named(%+v) = %d, want %d", x.d, law, x.want)
		}
	}
	// A negative number is nobody, as 0 is: so it is the keeper of a side that has none.
	if law := field.Named(api.Innings{}, api.Delivery{How: api.Stumped, Fielder: -4}); law != api.Legal {
		t.Errorf("stumped by nobody, without a keeper: law %d", law)
	}
}

// P11.6

func TestPresent(t *testing.T) {
	sides(func(subs []bool) {
		in := busy(subs, 1, 2)
		var want []int
		for _, p := range []int{1, 2, 3, 4} {
			if is(subs, p) && !out(subs, p) {
				want = append(want, p)
			}
		}
		l := field.Present(in)
		if !slices.Equal(l, want) || !untouched(in, subs, 1, 2) {
			t.Errorf("Present of %v = %v, want %v", subs, l, want)
		}
		for i := range l {
			l[i] = 99
		}
		if !slices.Equal(field.Present(in), want) {
			t.Errorf("Present of %v shares its result", subs)
		}
	})
}

// The example of the document.

func TestExample(t *testing.T) {
	r := api.Rules{Outside: 2}
	in := api.Innings{Subs: make([]bool, 4)}
	if law := field.Ready(r, in); law != api.LawKeeper {
		t.Errorf("without a keeper: law %d", law)
	}
	in, kept := field.Keeper(in, 2)
	in, set := field.Outside(in, 2)
	if law := field.Ready(r, in); kept != api.Legal || set != api.Legal || law != api.Legal {
		t.Errorf("with a keeper: laws %d, %d, %d", kept, set, law)
	}
	if law := field.Ready(api.Rules{Outside: 1}, in); law != api.LawField {
		t.Errorf("with too many outside: law %d", law)
	}
	if _, law := field.Outside(in, 3); law != api.LawField {
		t.Errorf("with 3 of 4 outside: law %d", law)
	}
	in, law := field.Substitute(in, 2, true)
	if law != api.Legal || in.Keeper != 0 || !slices.Equal(field.Present(in), []int{1, 3, 4}) {
		t.Errorf("with a substitute: %+v, law %d", in, law)
	}
	d := api.Delivery{Type: api.Fair, How: api.Caught, Victim: 1, Fielder: 2}
	if law := field.Named(in, d); law != api.LawSubstitute {
		t.Errorf("a catch by a replaced player: law %d", law)
	}
	d.Sub = true
	if law := field.Named(in, d); law != api.Legal {
		t.Errorf("a catch by a substitute: law %d", law)
	}
}
