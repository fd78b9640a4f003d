package squad_test

import (
	"math"
	"slices"
	"testing"

	"scorebook/api"
	"scorebook/rules"
	"scorebook/squad"
)

func oaks() api.Squad {
	return api.Squad{Name: "OAKS", Players: []string{"ANN", "BEN", "CAT"}, Captain: 2, Keeper: 3}
}

func elms() api.Squad {
	return api.Squad{Name: "ELMS", Players: []string{"DAN", "EVE", "FAY"}, Captain: 1, Keeper: 1}
}

// many is a side of n players with names of their own.
func many(n int) api.Squad {
	s := api.Squad{Name: "MANY", Captain: 1, Keeper: 1}
	for i := range n {
		s.Players = append(s.Players, "P"+string([]byte{byte('A' + i/26), byte('A' + i%26)}))
	}
	return s
}

func with(s api.Squad, change func(s *api.Squad)) api.Squad {
	s.Players = slices.Clone(s.Players)
	change(&s)
	return s
}

// equal compares sides without the package.
func equal(a, b api.Squad) bool {
	return slices.Equal(a.Players, b.Players) && [...]any{a.Name, a.Captain, a.Keeper} == [...]any{b.Name, b.Captain, b.Keeper}
}

func checkCheck(t *testing.T, s api.Squad, want api.Errno) {
	t.Helper()
	if e := squad.Check(s); e != want {
		t.Errorf("Check(%v) = %v, want %v", s, e, want)
	}
	text, e := squad.Text(s)
	if e != want || (text != "") != (want == api.OK) {
		t.Errorf("Text(%v) = %q, %v, want %v", s, text, e, want)
	}
}

// P6.1

func TestCheck(t *testing.T) {
	for _, x := range []struct {
		change func(s *api.Squad)
		want   api.Errno
	}{
		{func(s *api.Squad) {}, api.OK},
		{func(s *api.Squad) { s.Captain, s.Keeper = 1, 1 }, api.OK},
		{func(s *api.Squad) { s.Name = "ANN" }, api.OK},
		{func(s *api.Squad) { s.Name = "" }, api.ErrName},
		{func(s *api.Squad) { s.Name = "oaks" }, api.ErrName},
		{func(s *api.Squad) { s.Players = nil }, api.ErrLimit},
		{func(s *api.Squad) { s.Players = s.Players[:1] }, api.ErrLimit},
		{func(s *api.Squad) { s.Players, s.Keeper = s.Players[:2], 2 }, api.OK},
		{func(s *api.Squad) { s.Players[2] = "" }, api.ErrName},
		{func(s *api.Squad) { s.Players[0] = "Ann" }, api.ErrName},
		{func(s *api.Squad) { s.Players[1] = "ANN" }, api.ErrExists},
		{func(s *api.Squad) { s.Players[2] = "ANN" }, api.ErrExists},
		{func(s *api.Squad) { s.Players[2] = "BEN" }, api.ErrExists},
		{func(s *api.Squad) { s.Captain = 0 }, api.ErrNone},
		{func(s *api.Squad) { s.Captain = -1 }, api.ErrNone},
		{func(s *api.Squad) { s.Captain = 3 }, api.OK},
		{func(s *api.Squad) { s.Captain = 4 }, api.ErrNone},
		{func(s *api.Squad) { s.Keeper = 0 }, api.ErrNone},
		{func(s *api.Squad) { s.Keeper = 4 }, api.ErrNone},
		{func(s *api.Squad) { s.Captain = math.MinInt }, api.ErrNone},
		{func(s *api.Squad) { s.Keeper = math.MaxInt }, api.ErrNone},
	} {
		checkCheck(t, with(oaks(), x.change), x.want)
	}
	checkCheck(t, api.Squad{}, api.ErrName)
}

func TestCheckNumberOfPlayers(t *testing.T) {
	for n := range 30 {
		want := api.OK
		if n < 2 || n > 11 {
			want = api.ErrLimit
		}
		checkCheck(t, many(n), want)
	}
}

func TestCheckOrder(t *testing.T) {
	for _, x := range []struct {
		change func(s *api.Squad)
		want   api.Errno
	}{
		{func(s *api.Squad) { s.Name, s.Players, s.Captain = "x", nil, 0 }, api.ErrName},
		{func(s *api.Squad) { s.Players, s.Captain = []string{"x"}, 0 }, api.ErrLimit},
		{func(s *api.Squad) { s.Players = slices.Repeat([]string{"x"}, 12) }, api.ErrLimit},
		{func(s *api.Squad) { s.Players, s.Captain = []string{"x", "x"}, 0 }, api.ErrName},
		{func(s *api.Squad) { s.Players = []string{"A", "A", "x"} }, api.ErrExists},
		{func(s *api.Squad) { s.Players = []string{"A", "x", "A"} }, api.ErrName},
		{func(s *api.Squad) { s.Players, s.Keeper = []string{"A", "B", "B"}, 0 }, api.ErrExists},
	} {
		checkCheck(t, with(oaks(), x.change), x.want)
	}
}

// P6.2

func match(side int) api.Rules {
	return api.Rules{Name: "R", Side: side, Innings: 1, Overs: 2, Balls: 6, Wide: 1, NoBall: 1}
}

func checkPair(t *testing.T, r api.Rules, a, b api.Squad, want api.Errno) {
	t.Helper()
	if e := squad.Pair(r, a, b); e != want {
		t.Errorf("Pair(%v, %v, %v) = %v, want %v", r, a, b, e, want)
	}
}

func TestPair(t *testing.T) {
	checkPair(t, match(3), oaks(), elms(), api.OK)
	standard, _ := rules.Standard("TEST")
	both := many(11)
	other := with(both, func(s *api.Squad) {
		s.Name = "OTHER"
		for i := range s.Players {
			s.Players[i] += "2"
		}
	})
	checkPair(t, standard, both, other, api.OK)
	checkPair(t, match(10), both, other, api.ErrArg)
	for i := range both.Players {
		for j := range other.Players {
			common := with(other, func(s *api.Squad) { s.Players[j] = both.Players[i] })
			checkPair(t, standard, both, common, api.ErrExists)
		}
	}
	// The name of a side is not one of a player.
	checkPair(t, match(3), oaks(), with(elms(), func(s *api.Squad) { s.Name = "ANN" }), api.OK)
}

func TestPairErrors(t *testing.T) {
	wrong := match(3)
	wrong.Balls = 0
	nameless := with(oaks(), func(s *api.Squad) { s.Name = "" })
	single := with(elms(), func(s *api.Squad) { s.Players = s.Players[:1] })
	headless := with(elms(), func(s *api.Squad) { s.Captain = 0 })
	two := with(elms(), func(s *api.Squad) { s.Players = []string{"ANN", "BEN"} })
	named := with(elms(), func(s *api.Squad) { s.Name = "OAKS" })
	shared := with(elms(), func(s *api.Squad) { s.Players[2] = "ANN" })
	for _, x := range []struct {
		r    api.Rules
		a, b api.Squad
		want api.Errno
	}{
		{wrong, nameless, single, api.ErrRange},
		{api.Rules{}, oaks(), elms(), api.ErrName},
		{match(3), nameless, single, api.ErrName},
		{match(3), single, nameless, api.ErrLimit},
		{match(3), oaks(), single, api.ErrLimit},
		{match(2), oaks(), headless, api.ErrNone},
		{match(3), headless, oaks(), api.ErrNone},
		{match(3), oaks(), two, api.ErrArg},
		{match(3), two, oaks(), api.ErrArg},
		{match(2), oaks(), two, api.ErrArg},
		{match(4), oaks(), named, api.ErrArg},
		{match(3), oaks(), named, api.ErrExists},
		{match(3), oaks(), shared, api.ErrExists},
		{match(3), shared, oaks(), api.ErrExists},
		{match(3), oaks(), oaks(), api.ErrExists},
	} {
		checkPair(t, x.r, x.a, x.b, x.want)
	}
}

// P6.3

func TestFind(t *testing.T) {
	s := api.Squad{Players: []string{"", "x", "ANN", "x", "ANN"}}
	for name, want := range map[string]int{"": 1, "x": 2, "ANN": 3, "ann": 0, "AN": 0, "BEN": 0} {
		if n := squad.Find(s, name); n != want {
			t.Errorf("Find(%q) = %d, want %d", name, n, want)
		}
	}
	if n := squad.Find(api.Squad{Name: "A"}, "A"); n != 0 {
		t.Errorf("Find without players = %d", n)
	}
}

func TestTitle(t *testing.T) {
	for _, x := range []struct {
		captain, keeper, player int
		want                    string
	}{
		{1, 2, 1, "ANN (c)"},
		{1, 2, 2, "BEN (k)"},
		{1, 2, 3, "CAT"},
		{2, 2, 2, "BEN (c) (k)"},
		{3, 3, 3, "CAT (c) (k)"},
		{3, 3, 2, "BEN"},
		{1, 2, 0, ""},
		{1, 2, 4, ""},
		{1, 2, -1, ""},
		{0, 4, 0, ""},
		{0, 4, 4, ""},
		{-1, 9, 1, "ANN"},
		{1, 1, math.MinInt, ""},
		{1, 1, math.MaxInt, ""},
	} {
		s := with(oaks(), func(s *api.Squad) { s.Captain, s.Keeper = x.captain, x.keeper })
		if title := squad.Title(s, x.player); title != x.want {
			t.Errorf("Title(%v, %d) = %q, want %q", s, x.player, title, x.want)
		}
	}
	if title := squad.Title(api.Squad{Captain: 1, Keeper: 1}, 1); title != "" {
		t.Errorf("Title without players = %q", title)
	}
	if title := squad.Title(api.Squad{Players: []string{""}, Captain: 1}, 1); title != " (c)" {
		t.Errorf("Title of a player without name = %q", title)
	}
}

func TestSame(t *testing.T) {
	if !squad.Same(oaks(), oaks()) || !squad.Same(api.Squad{}, api.Squad{Players: []string{}}) {
		t.Error("equal sides are not the same")
	}
	for i, change := range []func(s *api.Squad){
		func(s *api.Squad) { s.Name = "OAK" },
		func(s *api.Squad) { s.Players[0] = "ANNE" },
		func(s *api.Squad) { s.Players[2] = "" },
		func(s *api.Squad) { s.Players = s.Players[:2] },
		func(s *api.Squad) { s.Players = append(s.Players, "CAT") },
		func(s *api.Squad) { s.Players[0], s.Players[1] = s.Players[1], s.Players[0] },
		func(s *api.Squad) { s.Players = nil },
		func(s *api.Squad) { s.Captain = 3 },
		func(s *api.Squad) { s.Keeper = 0 },
		func(s *api.Squad) { s.Captain, s.Keeper = s.Keeper, s.Captain },
	} {
		c := with(oaks(), change)
		if squad.Same(c, oaks()) || squad.Same(oaks(), c) || !squad.Same(c, c) {
			t.Errorf("change %d: %v", i, c)
		}
	}
}
