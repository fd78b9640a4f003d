package spell_test

import (
	"math"
	"math/big"
	"math/rand"
	"reflect"
	"slices"
	"testing"

	"scorebook/api"
	"scorebook/rules"
	"scorebook/spell"
)

// reason is a law with what has to hold for it to refuse a call.
type reason struct {
	law   api.Law
	holds bool
}

// first returns the first law that refuses, in the order of the document.
func first(l ...reason) api.Law {
	for _, x := range l {
		if x.holds {
			return x.law
		}
	}
	return api.Legal
}

// numbers are those in and around the players of the tests, the balls of an over and of a quota, and the extremes.
var numbers = []int{math.MinInt, math.MinInt + 1, -1000, -1, 0, 1, 2, 3, 4, 5, 6, 7, 8, 11, 12, 13, 17, 18, 24, 900, math.MaxInt - 1, math.MaxInt}

// players are numbers of players in and around those of the sides of the tests, and the extremes.
var players = []int{math.MinInt, -3, -1, 0, 1, 2, 3, 4, 5, 6, 11, 12, math.MaxInt}

// short are rules with overs of 4 balls, and a quota of 3 overs.
func short() api.Rules {
	return api.Rules{Name: "SHORT", Side: 4, Innings: 1, Overs: 9, Balls: 4, Quota: 3, Wide: 1, NoBall: 1, NewBall: 3, Reviews: 1, Outside: 2}
}

// ruleSets returns rules of all sorts: with and without quotas and new balls, and some that have an error.
func ruleSets() []api.Rules {
	open := short()
	open.Quota, open.NewBall = 0, 0
	long := short()
	long.Balls, long.Quota, long.NewBall = 8, 90, 200
	six := short()
	six.Balls, six.Quota, six.NewBall, six.Side, six.Overs = 6, 1, 1, 11, 11
	nameless := short()
	nameless.Name = ""
	ballless := open
	ballless.Balls = math.MinInt
	endless := short()
	endless.Quota, endless.Balls, endless.NewBall = math.MaxInt, math.MaxInt, math.MaxInt
	tight := short()
	tight.Quota, tight.Side = 1, 2
	return []api.Rules{short(), open, long, six, nameless, ballless, endless, tight, {}}
}

// marked returns a copy of a list with a mark in its spare capacity.
func marked(l []int) []int { return append(slices.Clone(l), 77)[:len(l)] }

// busy returns the state that has the fields of the bowlers, keepers and substitutes of another one, and in all others something.
func busy(x api.Innings) api.Innings {
	return api.Innings{
		Side: 1, Target: 2, Overs: 3, Runs: 4, Wickets: 5,
		Extras:   api.Extras{Wides: 6, NoBalls: 7, Byes: 8, LegByes: 9, Penalties: 10},
		Complete: x.Complete, InOver: x.InOver, Striker: 13, Other: 14,
		Batters: append([]api.Status{api.Batting, api.Hurt}, 77)[:2],
		Bowler:  x.Bowler,
		Bowlers: marked(x.Bowlers), Before: marked(x.Before), Fresh: true,
		Bowled: marked(x.Bowled), FreeHit: true, BallAge: x.BallAge,
		Keeper: x.Keeper, Outside: 23, Subs: append(slices.Clone(x.Subs), true)[:len(x.Subs)],
		Reviews: [2]int{24, 25}, Ending: api.Declared,
	}
}

// same reports whether two states are equal, nil and empty lists included.
func same(a, b api.Innings) bool {
	lists := slices.Equal(a.Bowlers, b.Bowlers) && slices.Equal(a.Before, b.Before) && slices.Equal(a.Bowled, b.Bowled) && slices.Equal(a.Subs, b.Subs)
	a.Bowlers, a.Before, a.Bowled, a.Subs = nil, nil, nil, nil
	b.Bowlers, b.Before, b.Bowled, b.Subs = nil, nil, nil, nil
	return lists && reflect.DeepEqual(a, b)
}

// untouched reports whether a state that busy gave is as it was, the marks included.
func untouched(in, x api.Innings) bool {
	for _, l := range [][]int{in.Bowlers, in.Before, in.Bowled} {
		if l[:len(l)+1][len(l)] != 77 {
			return false
		}
	}
	return same(in, busy(x)) && in.Subs[:len(in.Subs)+1][len(in.Subs)] && in.Batters[:3][2] == 77
}

// fill gives a list, with its spare capacity, one number.
func fill(l []int, n int) {
	for i := range l[:cap(l)] {
		l[:cap(l)][i] = n
	}
}

// apart reports whether the lists of a state share no memory; it destroys them.
func apart(in api.Innings) bool {
	fill(in.Bowlers, 1001)
	fill(in.Before, 1002)
	fill(in.Bowled, 1003)
	for i := range in.Batters[:cap(in.Batters)] {
		in.Batters[:cap(in.Batters)][i] += 100
	}
	for i := range in.Subs[:cap(in.Subs)] {
		in.Subs[:cap(in.Subs)][i] = !in.Subs[:cap(in.Subs)][i]
	}
	return full(in.Bowlers, 1001) && full(in.Before, 1002) && full(in.Bowled, 1003)
}

// full reports whether a list, with its spare capacity, has one number.
func full(l []int, n int) bool {
	return !slices.ContainsFunc(l[:cap(l)], func(m int) bool { return m != n })
}

// pick returns one of a list.
func pick[T any](r *rand.Rand, l []T) T { return l[r.Intn(len(l))] }

// some returns up to most of a list.
func some(r *rand.Rand, most int, from []int) []int {
	l := make([]int, r.Intn(most+1))
	for i := range l {
		l[i] = pick(r, from)
	}
	return l
}

// random returns what matters to the bowlers of a state, most of it likely to be met in play.
func random(r *rand.Rand) api.Innings {
	x := api.Innings{
		Complete: pick(r, numbers), InOver: pick(r, numbers), BallAge: pick(r, numbers),
		Bowler: pick(r, players), Keeper: pick(r, players),
		Bowlers: some(r, 3, players), Before: some(r, 2, players), Bowled: some(r, 5, numbers),
		Subs: make([]bool, r.Intn(7)),
	}
	if r.Intn(2) == 0 {
		x.InOver = r.Intn(9)
	}
	for i := range x.Subs {
		x.Subs[i] = r.Intn(4) == 0
	}
	return x
}

// everyState calls f for random states with all rules and players of the tests.
func everyState(n int, f func(r api.Rules, x api.Innings, p int)) {
	source := rand.New(rand.NewSource(13))
	for range n {
		x := random(source)
		for _, r := range ruleSets() {
			f(r, x, pick(source, players))
			f(r, x, 1+source.Intn(5))
		}
	}
}

func is(x api.Innings, p int) bool { return p > 0 && p <= len(x.Bowled) }

func broken(r api.Rules) bool { return rules.Check(r) != api.OK }

// room does what the document says of Room, without overflow.
func room(r api.Rules, x api.Innings, p int) int {
	if !is(x, p) || broken(r) {
		return 0
	}
	if r.Quota == 0 {
		return -1
	}
	bowled := big.NewInt(0)
	if x.Bowled[p-1] > 0 {
		bowled.SetInt64(int64(x.Bowled[p-1]))
	}
	left := new(big.Int).Sub(big.NewInt(int64(r.Quota*r.Balls)), bowled)
	if left.Sign() < 0 {
		return 0
	}
	return int(left.Int64())
}

// may does what the document says of May.
func may(r api.Rules, x api.Innings, p int) api.Law {
	n := room(r, x, p)
	left := new(big.Int).Sub(big.NewInt(int64(r.Balls)), big.NewInt(int64(x.InOver)))
	return first(
		reason{api.LawPlayer, !is(x, p)},
		reason{api.LawPlayer, broken(r)},
		reason{api.LawBowler, p == x.Keeper},
		reason{api.LawBowler, p == x.Bowler},
		reason{api.LawBowler, p > 0 && p <= len(x.Subs) && x.Subs[max(p, 1)-1]},
		reason{api.LawTwice, slices.Contains(x.Before, p)},
		reason{api.LawQuota, n != -1 && big.NewInt(int64(n)).Cmp(left) < 0},
	)
}

// check compares the state after a call with that which is expected, and looks for shared memory.
func check(t *testing.T, r api.Rules, x, after, expected, in api.Innings) {
	t.Helper()
	if !same(after, expected) {
		t.Fatalf("rules %+v, state %+v: %+v, want %+v", r, x, after, expected)
	}
	if !apart(after) || !untouched(in, x) {
		t.Fatalf("rules %+v, state %+v: memory is shared", r, x)
	}
}

// P13.1

func TestRoom(t *testing.T) {
	everyState(20000, func(r api.Rules, x api.Innings, p int) {
		in := busy(x)
		if n := spell.Room(r, in, p); n != room(r, x, p) {
			t.Fatalf("Room of %d, rules %+v, state %+v = %d, want %d", p, r, x, n, room(r, x, p))
		}
		if !untouched(in, x) {
			t.Fatalf("Room of %d: the argument became %+v", p, in)
		}
	})
}

func TestRoomTells(t *testing.T) {
	r := short()
	in := api.Innings{Bowled: []int{0, 5, 11, 12, 13, -1, math.MinInt, math.MaxInt}}
	for i, want := range []int{0, 12, 7, 1, 0, 0, 12, 12, 0, 0} {
		if n := spell.Room(r, in, i); n != want {
			t.Errorf("Room of %d = %d, want %d", i, n, want)
		}
	}
	r.Quota = 0
	for i, want := range []int{0, -1, -1, -1, -1, -1, -1, -1, -1, 0} {
		if n := spell.Room(r, in, i); n != want {
			t.Errorf("without a quota: Room of %d = %d, want %d", i, n, want)
		}
	}
	r.Wide = 0
	for i := range 10 {
		if n := spell.Room(r, in, i); n != 0 {
			t.Errorf("with rules that have an error: Room of %d = %d", i, n)
		}
	}
}

// P13.2

func TestMay(t *testing.T) {
	seen := map[api.Law]int{}
	everyState(20000, func(r api.Rules, x api.Innings, p int) {
		in := busy(x)
		law := spell.May(r, in, p)
		if law != may(r, x, p) {
			t.Fatalf("May of %d, rules %+v, state %+v = %d, want %d", p, r, x, law, may(r, x, p))
		}
		if !untouched(in, x) {
			t.Fatalf("May of %d: the argument became %+v", p, in)
		}
		seen[law]++
	})
	for _, law := range []api.Law{api.Legal, api.LawPlayer, api.LawBowler, api.LawTwice, api.LawQuota} {
		if seen[law] < 1000 {
			t.Errorf("law %d: met %d times", law, seen[law])
		}
	}
}

func TestTake(t *testing.T) {
	everyState(8000, func(r api.Rules, x api.Innings, p int) {
		in, expected := busy(x), busy(x)
		after, law := spell.Take(r, in, p)
		if law != may(r, x, p) {
			t.Fatalf("Take of %d, rules %+v, state %+v: law %d, want %d", p, r, x, law, may(r, x, p))
		}
		if law == api.Legal {
			expected.Bowler = p
		}
		check(t, r, x, after, expected, in)
	})
}

// fielders returns the state of four players before an innings, of whom the last one keeps wicket.
func fielders() api.Innings {
	return api.Innings{Bowled: make([]int, 4), Subs: make([]bool, 4), Keeper: 4}
}

func TestMayLaws(t *testing.T) {
	for _, x := range []struct {
		name   string
		player int
		change func(in *api.Innings)
		want   api.Law
	}{
		{"a player", 1, func(in *api.Innings) {}, api.Legal},
		{"nobody", 0, func(in *api.Innings) {}, api.LawPlayer},
		{"a fifth player", 5, func(in *api.Innings) { in.Subs = make([]bool, 9) }, api.LawPlayer},
		{"the keeper", 4, func(in *api.Innings) { in.Before = []int{4} }, api.LawBowler},
		{"the bowler", 2, func(in *api.Innings) { in.Bowler, in.Before = 2, []int{2} }, api.LawBowler},
		{"a bowler of this over", 2, func(in *api.Innings) { in.Bowler, in.Bowlers = 1, []int{2, 1} }, api.Legal},
		{"a replaced player", 3, func(in *api.Innings) { in.Subs[2], in.Before = true, []int{3} }, api.LawBowler},
		{"beyond the substitutes", 3, func(in *api.Innings) { in.Subs = []bool{true} }, api.Legal},
		{"the first of the over before", 1, func(in *api.Innings) { in.Before, in.Bowled[0] = []int{1, 3}, 12 }, api.LawTwice},
		{"the last of the over before", 3, func(in *api.Innings) { in.Before, in.Bowled[2] = []int{1, 3}, 12 }, api.LawTwice},
		{"nobody of the over before", 2, func(in *api.Innings) { in.Before = []int{1, 3} }, api.Legal},
		{"an over of the quota is left", 2, func(in *api.Innings) { in.Bowled[1] = 8 }, api.Legal},
		{"less than an over is left", 2, func(in *api.Innings) { in.Bowled[1] = 9 }, api.LawQuota},
		{"and more of it than of the over", 2, func(in *api.Innings) { in.Bowled[1], in.InOver = 9, 2 }, api.Legal},
		{"and as much of it as of the over", 2, func(in *api.Innings) { in.Bowled[1], in.InOver = 9, 1 }, api.Legal},
		{"the quota of another player", 2, func(in *api.Innings) { in.Bowled[0] = 12 }, api.Legal},
		{"an over that is beyond its end", 2, func(in *api.Innings) { in.Bowled[1], in.InOver = 99, 4 }, api.Legal},
		{"an over without an end", 2, func(in *api.Innings) { in.InOver = math.MinInt }, api.LawQuota},
		{"an over that ended long ago", 2, func(in *api.Innings) { in.InOver = math.MaxInt }, api.Legal},
	} {
		in := fielders()
		x.change(&in)
		if law := spell.May(short(), in, x.player); law != x.want {
			t.Errorf("%s: law %d, want %d", x.name, law, x.want)
		}
	}
}

func TestMayWithoutQuota(t *testing.T) {
	r, in := short(), fielders()
	r.Quota = 0
	in.Bowled[1], in.InOver = math.MaxInt, math.MinInt
	if law := spell.May(r, in, 2); law != api.Legal {
		t.Errorf("without a quota: law %d", law)
	}
	r.Balls = 3
	if law := spell.May(r, in, 4); law != api.LawPlayer {
		t.Errorf("with rules that have an error: law %d", law)
	}
}

// P13.3

// bowl does what the document says of Ball.
func bowl(r api.Rules, in *api.Innings, counts bool) bool {
	if !is(*in, in.Bowler) || broken(r) {
		return false
	}
	if !slices.Contains(in.Bowlers, in.Bowler) {
		in.Bowlers = append(slices.Clone(in.Bowlers), in.Bowler)
	}
	if counts {
		for _, n := range []*int{&in.Bowled[in.Bowler-1], &in.InOver, &in.BallAge} {
			*n += 1
		}
	}
	if in.InOver >= r.Balls {
		in.Complete, in.InOver, in.Bowler = in.Complete+1, 0, 0
		in.Before, in.Bowlers = in.Bowlers, []int{}
		return true
	}
	return false
}

func TestBall(t *testing.T) {
	ended := 0
	everyState(8000, func(r api.Rules, x api.Innings, p int) {
		x.Bowler = p
		for _, counts := range []bool{false, true} {
			in, expected := busy(x), busy(x)
			want := bowl(r, &expected, counts)
			after, over := spell.Ball(r, in, counts)
			if over != want {
				t.Fatalf("rules %+v, state %+v: over %v", r, x, over)
			}
			check(t, r, x, after, expected, in)
			if over {
				ended++
			}
		}
	})
	if ended < 1000 {
		t.Errorf("only %d overs ended", ended)
	}
}

func TestBallTells(t *testing.T) {
	in := fielders()
	in.Bowler, in.Before = 2, []int{3}
	in, over := spell.Ball(short(), in, true)
	if over || !slices.Equal(in.Bowlers, []int{2}) || !slices.Equal(in.Before, []int{3}) || in.Bowled[1] != 1 || in.InOver != 1 || in.BallAge != 1 {
		t.Fatalf("after a ball: %+v", in)
	}
	in, over = spell.Ball(short(), in, false)
	if over || !slices.Equal(in.Bowlers, []int{2}) || in.Bowled[1] != 1 || in.InOver != 1 || in.BallAge != 1 || in.Bowler != 2 {
		t.Fatalf("after a wide: %+v", in)
	}
	in.Bowler = 1
	in, over = spell.Ball(short(), in, false)
	if over || !slices.Equal(in.Bowlers, []int{2, 1}) || in.Bowled[0] != 0 {
		t.Fatalf("after a wide of another bowler: %+v", in)
	}
	in.InOver = 3
	in, over = spell.Ball(short(), in, true)
	if !over || len(in.Bowlers) != 0 || !slices.Equal(in.Before, []int{2, 1}) || in.Complete != 1 || in.InOver != 0 || in.Bowler != 0 || in.Bowled[0] != 1 || in.BallAge != 2 {
		t.Fatalf("after the over: %+v", in)
	}
	if after, over := spell.Ball(short(), in, true); over || !same(after, in) {
		t.Errorf("without a bowler: %+v, %v", after, over)
	}
}

func TestBallThatDoesNotCountEndsAnOver(t *testing.T) {
	in := fielders()
	in.Bowler, in.InOver = 1, 4
	in, over := spell.Ball(short(), in, false)
	if !over || in.Complete != 1 || in.Bowled[0] != 0 || in.BallAge != 0 || !slices.Equal(in.Before, []int{1}) {
		t.Errorf("after a wide beyond the over: %+v, %v", in, over)
	}
}

// P13.4

func TestNewBall(t *testing.T) {
	taken := 0
	everyState(8000, func(r api.Rules, x api.Innings, p int) {
		in, expected := busy(x), busy(x)
		want := first(
			reason{api.LawNewBall, broken(r)},
			reason{api.LawNewBall, r.NewBall == 0},
			reason{api.LawNewBall, x.BallAge < r.NewBall*r.Balls},
		)
		after, law := spell.NewBall(r, in)
		if law != want {
			t.Fatalf("rules %+v, ball of %d: law %d, want %d", r, x.BallAge, law, want)
		}
		if law == api.Legal {
			expected.BallAge = 0
			taken++
		}
		check(t, r, x, after, expected, in)
	})
	if taken < 1000 {
		t.Errorf("only %d new balls", taken)
	}
}

func TestNewBallIsDue(t *testing.T) {
	r := short()
	for age, want := range map[int]api.Law{0: api.LawNewBall, 11: api.LawNewBall, 12: api.Legal, 13: api.Legal, -1: api.LawNewBall, math.MinInt: api.LawNewBall, math.MaxInt: api.Legal} {
		after, law := spell.NewBall(r, api.Innings{BallAge: age})
		if law != want || law == api.Legal && after.BallAge != 0 || law != api.Legal && after.BallAge != age {
			t.Errorf("a ball of %d: %d, law %d", age, after.BallAge, law)
		}
	}
	r.NewBall = 0
	if _, law := spell.NewBall(r, api.Innings{BallAge: 99}); law != api.LawNewBall {
		t.Errorf("a new ball is never due: law %d", law)
	}
	r = short()
	r.Name = "?"
	if _, law := spell.NewBall(r, api.Innings{BallAge: 99}); law != api.LawNewBall {
		t.Errorf("with rules that have an error: law %d", law)
	}
}

// P13.5

func TestAble(t *testing.T) {
	longest := 0
	everyState(8000, func(r api.Rules, x api.Innings, p int) {
		var want []int
		for q := range len(x.Bowled) + 1 {
			if may(r, x, q) == api.Legal {
				want = append(want, q)
			}
		}
		in := busy(x)
		l := spell.Able(r, in)
		if !slices.Equal(l, want) {
			t.Fatalf("Able, rules %+v, state %+v = %v, want %v", r, x, l, want)
		}
		fill(l, 99)
		if !untouched(in, x) || !slices.Equal(spell.Able(r, in), want) {
			t.Fatalf("the argument became %+v", in)
		}
		longest = max(longest, len(l))
	})
	if longest < 4 {
		t.Errorf("at most %d players were able", longest)
	}
}

func TestAbleOfNobody(t *testing.T) {
	if l := spell.Able(short(), api.Innings{}); len(l) != 0 {
		t.Errorf("a side of nobody: %v", l)
	}
	if l := spell.Able(api.Rules{}, fielders()); len(l) != 0 {
		t.Errorf("with rules that have an error: %v", l)
	}
}

// The examples of the document.

func TestExamples(t *testing.T) {
	r := api.Rules{Name: "SIXES", Side: 4, Innings: 1, Overs: 8, Balls: 6, Quota: 2, Wide: 1, NoBall: 1}
	in := fielders()
	if l := spell.Able(r, in); !slices.Equal(l, []int{1, 2, 3}) {
		t.Errorf("before the innings: %v", l)
	}
	in, law := spell.Take(r, in, 1)
	over := false
	for i := range 6 {
		if in, over = spell.Ball(r, in, true); over != (i == 5) {
			t.Errorf("ball %d: %v", i, over)
		}
	}
	if law != api.Legal || in.Complete != 1 || !slices.Equal(in.Before, []int{1}) || in.Bowler != 0 || !slices.Equal(spell.Able(r, in), []int{2, 3}) {
		t.Errorf("after an over: %+v", in)
	}
	in.Bowled[1] = 11
	if n, law := spell.Room(r, in, 2), spell.May(r, in, 2); n != 1 || law != api.LawQuota {
		t.Errorf("at the beginning of an over: %d, law %d", n, law)
	}
	in.InOver = 5
	if law := spell.May(r, in, 2); law != api.Legal {
		t.Errorf("when five balls are bowled: law %d", law)
	}
}
