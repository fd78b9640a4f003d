package rules_test

import (
	"math"
	"slices"
	"testing"

	"scorebook/api"
	"scorebook/rules"
)

// plain are rules without limits of overs, in which each number may be changed alone.
func plain() api.Rules {
	return api.Rules{Name: "PLAIN", Side: 11, Innings: 2, Balls: 6, Wide: 1, NoBall: 1}
}

// limited are rules with limits and powerplays.
func limited() api.Rules {
	return api.Rules{
		Name: "LIMITED", Side: 5, Innings: 1, Overs: 20, Balls: 6, Quota: 4, Wide: 1, NoBall: 2, FreeHit: true, Reviews: 1, Outside: 4,
		Power: []api.Phase{{From: 1, To: 4, Outside: 2}, {From: 7, To: 7, Outside: 0}, {From: 15, To: 20, Outside: 3}},
	}
}

func changed(r api.Rules, change func(r *api.Rules)) api.Rules {
	r.Power = slices.Clone(r.Power)
	change(&r)
	return r
}

func checkCheck(t *testing.T, r api.Rules, want api.Errno) {
	t.Helper()
	if e := rules.Check(r); e != want {
		t.Errorf("Check(%v) = %v, want %v", r, e, want)
	}
	most := r.Overs * r.Balls
	if want != api.OK {
		most = 0
	}
	if n := rules.Most(r); n != most {
		t.Errorf("Most(%v) = %d, want %d", r, n, most)
	}
	s, e := rules.Text(r)
	if e != want || (s != "") != (want == api.OK) {
		t.Errorf("Text(%v) = %q, %v, want %v", r, s, e, want)
	}
}

// P5.1

func TestCheckAccepts(t *testing.T) {
	checkCheck(t, plain(), api.OK)
	checkCheck(t, limited(), api.OK)
	checkCheck(t, changed(plain(), func(r *api.Rules) { r.Power = []api.Phase{} }), api.OK)
}

func TestCheckName(t *testing.T) {
	for _, name := range []string{"", "one", "1X", "A B", "ABCDEFGHIJKLMNOPQ", "A\n"} {
		checkCheck(t, changed(plain(), func(r *api.Rules) { r.Name = name }), api.ErrName)
	}
	checkCheck(t, changed(plain(), func(r *api.Rules) { r.Name = "ABCDEFGHIJKLMN_-" }), api.OK)
}

func TestCheckRanges(t *testing.T) {
	for _, x := range []struct {
		name   string
		lo, hi int
		at     func(r *api.Rules) *int
	}{
		{"Side", 2, 11, func(r *api.Rules) *int { return &r.Side }},
		{"Innings", 1, 2, func(r *api.Rules) *int { return &r.Innings }},
		{"Overs", 0, 90, func(r *api.Rules) *int { return &r.Overs }},
		{"Balls", 4, 8, func(r *api.Rules) *int { return &r.Balls }},
		{"Quota", 0, 90, func(r *api.Rules) *int { return &r.Quota }},
		{"Wide", 1, 5, func(r *api.Rules) *int { return &r.Wide }},
		{"NoBall", 1, 5, func(r *api.Rules) *int { return &r.NoBall }},
		{"NewBall", 0, 200, func(r *api.Rules) *int { return &r.NewBall }},
		{"FollowOn", 0, 1000, func(r *api.Rules) *int { return &r.FollowOn }},
		{"Reviews", 0, 9, func(r *api.Rules) *int { return &r.Reviews }},
		{"Outside", 0, 11, func(r *api.Rules) *int { return &r.Outside }},
	} {
		for _, n := range []int{math.MinInt, -1, x.lo - 1, x.lo, x.hi, x.hi + 1, math.MaxInt} {
			r := changed(plain(), func(r *api.Rules) {
				if x.name == "Quota" {
					r.Overs = 90
				}
				*x.at(r) = n
			})
			want := api.ErrRange
			if x.lo <= n && n <= x.hi {
				want = api.OK
			}
			checkCheck(t, r, want)
		}
	}
}

func TestCheckArg(t *testing.T) {
	for _, x := range []struct {
		change func(r *api.Rules)
		want   api.Errno
	}{
		{func(r *api.Rules) { r.Innings, r.FollowOn = 1, 1 }, api.ErrArg},
		{func(r *api.Rules) { r.Innings, r.FollowOn = 1, 0 }, api.OK},
		{func(r *api.Rules) { r.Innings, r.FollowOn = 2, 1 }, api.OK},
		{func(r *api.Rules) { r.Innings, r.FollowOn, r.Overs = 1, 1000, 20 }, api.ErrArg},
		{func(r *api.Rules) { r.Quota = 1 }, api.ErrArg},
		{func(r *api.Rules) { r.Quota, r.Overs = 1, 1 }, api.OK},
		{func(r *api.Rules) { r.Power = []api.Phase{{From: 1, To: 1}} }, api.ErrArg},
		{func(r *api.Rules) { r.Power = make([]api.Phase, 9) }, api.ErrArg},
		{func(r *api.Rules) { r.Power, r.Overs = []api.Phase{{From: 1, To: 1}}, 1 }, api.OK},
	} {
		checkCheck(t, changed(plain(), x.change), x.want)
	}
}

func TestCheckConflict(t *testing.T) {
	for _, x := range []struct {
		side, quota, overs int
		want               api.Errno
	}{
		{11, 1, 20, api.ErrConflict},
		{11, 1, 12, api.ErrConflict},
		{11, 1, 11, api.OK},
		{2, 45, 90, api.OK},
		{2, 44, 90, api.ErrConflict},
		{11, 0, 90, api.OK},
		{11, 90, 90, api.OK},
	} {
		checkCheck(t, changed(plain(), func(r *api.Rules) { r.Side, r.Quota, r.Overs = x.side, x.quota, x.overs }), x.want)
	}
}

func TestCheckPowerplays(t *testing.T) {
	each := func(n int) []api.Phase {
		var l []api.Phase
		for i := range n {
			l = append(l, api.Phase{From: 2*i + 1, To: 2*i + 2})
		}
		return l
	}
	for _, x := range []struct {
		power []api.Phase
		want  api.Errno
	}{
		{each(8), api.OK},
		{each(9), api.ErrLimit},
		{make([]api.Phase, 9), api.ErrLimit},
		{[]api.Phase{{From: 1, To: 20, Outside: 11}}, api.OK},
		{[]api.Phase{{From: 20, To: 20}}, api.OK},
		{[]api.Phase{{From: 0, To: 3}}, api.ErrRange},
		{[]api.Phase{{From: math.MinInt, To: 3}}, api.ErrRange},
		{[]api.Phase{{From: 4, To: 3}}, api.ErrRange},
		{[]api.Phase{{From: 1, To: 21}}, api.ErrRange},
		{[]api.Phase{{From: 1, To: math.MaxInt}}, api.ErrRange},
		{[]api.Phase{{From: 1, To: 2, Outside: -1}}, api.ErrRange},
		{[]api.Phase{{From: 1, To: 2, Outside: 12}}, api.ErrRange},
		{[]api.Phase{{From: 1, To: 3}, {From: 3, To: 4}}, api.ErrOrder},
		{[]api.Phase{{From: 1, To: 3}, {From: 4, To: 4}}, api.OK},
		{[]api.Phase{{From: 5, To: 6}, {From: 1, To: 2}}, api.ErrOrder},
		{[]api.Phase{{From: 5, To: 6}, {From: 5, To: 6}}, api.ErrOrder},
		{[]api.Phase{{From: 5, To: 6}, {From: 1, To: 0}}, api.ErrRange},
		{[]api.Phase{{From: 5, To: 6}, {From: 1, To: 2}, {From: 0, To: 1}}, api.ErrOrder},
		{[]api.Phase{{From: 5, To: 6}, {From: 0, To: 1}, {From: 1, To: 2}}, api.ErrRange},
		// The powerplay before is compared, not an earlier one.
		{[]api.Phase{{From: 1, To: 9}, {From: 10, To: 10}, {From: 10, To: 12}}, api.ErrOrder},
	} {
		checkCheck(t, changed(plain(), func(r *api.Rules) { r.Overs, r.Power = 20, x.power }), x.want)
	}
}

func TestCheckOrder(t *testing.T) {
	faults := []struct {
		change func(r *api.Rules)
		want   api.Errno
	}{
		{func(r *api.Rules) { r.Name = "x" }, api.ErrName},
		{func(r *api.Rules) { r.Outside = 12 }, api.ErrRange},
		{func(r *api.Rules) { r.FollowOn = 1 }, api.ErrArg},
		{func(r *api.Rules) { r.Quota = 1 }, api.ErrConflict},
		{func(r *api.Rules) { r.Power = append(r.Power, make([]api.Phase, 6)...) }, api.ErrLimit},
		{func(r *api.Rules) { r.Power[0].From = 0 }, api.ErrRange},
		{func(r *api.Rules) { r.Power[1].From = 4 }, api.ErrOrder},
	}
	for i, x := range faults {
		checkCheck(t, changed(limited(), x.change), x.want)
		for _, y := range faults[i+1:] {
			checkCheck(t, changed(changed(limited(), y.change), x.change), x.want)
		}
	}
}

// P5.2

func TestStandard(t *testing.T) {
	for _, want := range []api.Rules{
		{Name: "TEST", Side: 11, Innings: 2, Balls: 6, Wide: 1, NoBall: 1, NewBall: 80, FollowOn: 200, Reviews: 3, Outside: 9},
		{Name: "ONEDAY", Side: 11, Innings: 1, Overs: 50, Balls: 6, Quota: 10, Wide: 1, NoBall: 1, FreeHit: true, Reviews: 2, Outside: 5,
			Power: []api.Phase{{From: 1, To: 10, Outside: 2}, {From: 11, To: 40, Outside: 4}}},
		{Name: "TWENTY", Side: 11, Innings: 1, Overs: 20, Balls: 6, Quota: 4, Wide: 1, NoBall: 1, FreeHit: true, Reviews: 2, Outside: 5,
			Power: []api.Phase{{From: 1, To: 6, Outside: 2}}},
	} {
		r, e := rules.Standard(want.Name)
		if e != api.OK || !equal(r, want) {
			t.Errorf("Standard(%q) = %v, %v, want %v", want.Name, r, e, want)
		}
		checkCheck(t, r, api.OK)
		if len(r.Power) > 0 {
			r.Power[0].Outside = 11
			if again, _ := rules.Standard(want.Name); !equal(again, want) {
				t.Errorf("Standard(%q) shares memory", want.Name)
			}
		}
	}
	for _, name := range []string{"", "HUNDRED", "test", "TEST ", "ONE", "TWENTY20"} {
		if r, e := rules.Standard(name); e != api.ErrNone || !equal(r, api.Rules{}) {
			t.Errorf("Standard(%q) = %v, %v", name, r, e)
		}
	}
}

// equal compares rules without the package.
func equal(a, b api.Rules) bool {
	power := slices.Equal(a.Power, b.Power)
	x := [...]any{a.Name, a.Side, a.Innings, a.Overs, a.Balls, a.Quota, a.Wide, a.NoBall, a.FreeHit, a.NewBall, a.FollowOn, a.Reviews, a.Outside}
	y := [...]any{b.Name, b.Side, b.Innings, b.Overs, b.Balls, b.Quota, b.Wide, b.NoBall, b.FreeHit, b.NewBall, b.FollowOn, b.Reviews, b.Outside}
	return power && x == y
}

// P5.3

func TestAllowed(t *testing.T) {
	r := api.Rules{Outside: 7, Power: []api.Phase{
		{From: 1, To: 3, Outside: 2},
		{From: 3, To: 5, Outside: 4},
		{From: 9, To: 8, Outside: 6},
		{From: -4, To: -2, Outside: 20},
		{From: 100, To: math.MaxInt, Outside: -1},
	}}
	for over, want := range map[int]int{
		0: 2, 1: 2, 2: 2, 3: 4, 4: 4, 5: 7, 7: 7, 8: 7,
		-1: 7, -2: 7, -3: 20, -5: 20, -6: 7,
		98: 7, 99: -1, 1<<31 - 1: -1, math.MinInt: 7,
	} {
		if n := rules.Allowed(r, over); n != want {
			t.Errorf("Allowed(%d) = %d, want %d", over, n, want)
		}
	}
	if n := rules.Allowed(api.Rules{Outside: -5}, 0); n != -5 {
		t.Errorf("Allowed without powerplays = %d", n)
	}
	// No promise says more of such an over than that it has a result.
	rules.Allowed(r, math.MaxInt)
}

func TestAllowedOfStandard(t *testing.T) {
	for _, x := range []struct {
		name       string
		over, want int
	}{
		{"TWENTY", 0, 2}, {"TWENTY", 5, 2}, {"TWENTY", 6, 5}, {"TWENTY", 19, 5},
		{"ONEDAY", 9, 2}, {"ONEDAY", 10, 4}, {"ONEDAY", 39, 4}, {"ONEDAY", 40, 5},
		{"TEST", 0, 9}, {"TEST", 1000, 9},
	} {
		r, _ := rules.Standard(x.name)
		if n := rules.Allowed(r, x.over); n != x.want {
			t.Errorf("%s: Allowed(%d) = %d, want %d", x.name, x.over, n, x.want)
		}
	}
}

func TestMost(t *testing.T) {
	for name, want := range map[string]int{"TEST": 0, "ONEDAY": 300, "TWENTY": 120, "HUNDRED": 0} {
		r, _ := rules.Standard(name)
		if n := rules.Most(r); n != want {
			t.Errorf("Most of %s = %d, want %d", name, n, want)
		}
	}
	checkCheck(t, changed(plain(), func(r *api.Rules) { r.Overs, r.Balls = 90, 8 }), api.OK)
}

func TestSame(t *testing.T) {
	if !rules.Same(limited(), limited()) || !rules.Same(api.Rules{}, api.Rules{}) {
		t.Error("equal rules are not the same")
	}
	if !rules.Same(api.Rules{Power: []api.Phase{}}, api.Rules{}) {
		t.Error("nil and empty powerplays differ")
	}
	for i, change := range []func(r *api.Rules){
		func(r *api.Rules) { r.Name = "OTHER" },
		func(r *api.Rules) { r.Side++ },
		func(r *api.Rules) { r.Innings++ },
		func(r *api.Rules) { r.Overs++ },
		func(r *api.Rules) { r.Balls++ },
		func(r *api.Rules) { r.Quota++ },
		func(r *api.Rules) { r.Wide++ },
		func(r *api.Rules) { r.NoBall++ },
		func(r *api.Rules) { r.FreeHit = false },
		func(r *api.Rules) { r.NewBall++ },
		func(r *api.Rules) { r.FollowOn++ },
		func(r *api.Rules) { r.Reviews++ },
		func(r *api.Rules) { r.Outside++ },
		func(r *api.Rules) { r.Power = nil },
		func(r *api.Rules) { r.Power = r.Power[:2] },
		func(r *api.Rules) { r.Power[0].From++ },
		func(r *api.Rules) { r.Power[2].To++ },
		func(r *api.Rules) { r.Power[1].Outside++ },
	} {
		c := changed(limited(), change)
		if rules.Same(c, limited()) || rules.Same(limited(), c) {
			t.Errorf("change %d is not seen", i)
		}
		if !rules.Same(c, c) {
			t.Errorf("%v is not the same as itself", c)
		}
	}
}

func TestClone(t *testing.T) {
	r := limited()
	c := rules.Clone(r)
	if !equal(c, limited()) {
		t.Errorf("Clone = %v", c)
	}
	c.Power[1].From = 99
	if !equal(r, limited()) {
		t.Error("Clone shares memory")
	}
	spare := slices.Grow(r.Power, 5)
	c = rules.Clone(api.Rules{Power: spare})
	_ = append(c.Power, api.Phase{From: 77})
	if spare[:4][3].From == 77 {
		t.Error("Clone shares spare memory")
	}
	if c := rules.Clone(api.Rules{}); !equal(c, api.Rules{}) {
		t.Errorf("Clone of zero rules = %v", c)
	}
}
