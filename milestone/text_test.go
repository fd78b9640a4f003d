package milestone_test

import (
	"fmt"
	"math"
	"math/rand"
	"slices"
	"testing"

	"scorebook/api"
	"scorebook/milestone"
)

// P28.4

func TestText(t *testing.T) {
	for _, x := range []struct {
		mark api.Mark
		want string
	}{
		{api.Mark{Kind: milestone.BatterRuns, Player: 2, Value: 50, Event: 61}, "BATTER 2 50 61"},
		{api.Mark{Kind: milestone.BowlerWickets, Player: 11, Value: 5, Event: 7}, "BOWLER 11 5 7"},
		{api.Mark{Kind: milestone.TeamRuns, Value: 100, Event: 10}, "TEAM 0 100 10"},
		{api.Mark{Kind: milestone.TeamRuns, Player: 3, Value: 100, Event: 10}, "TEAM 3 100 10"},
		{api.Mark{Kind: milestone.StandRuns}, "STAND 0 0 0"},
		{api.Mark{Kind: milestone.HatTrick, Player: 1, Value: 3, Event: 18}, "HATTRICK 1 3 18"},
		{api.Mark{Kind: milestone.BatterRuns, Player: 1_000_000, Value: 1_000_000, Event: 1_000_000}, "BATTER 1000000 1000000 1000000"},
	} {
		if s, e := milestone.Text(x.mark); s != x.want || e != api.OK {
			t.Errorf("%+v: %q, %d, want %q", x.mark, s, e, x.want)
		}
		if m, e := milestone.Parse(x.want); m != x.mark || e != api.OK {
			t.Errorf("%q: %+v, %d, want %+v", x.want, m, e, x.mark)
		}
	}
}

func TestTextErrors(t *testing.T) {
	numbers := []int{0, 7, 1_000_000, -1, 1_000_001, math.MaxInt, math.MinInt}
	for _, kind := range []int{1, 2, 3, 4, 5, 0, -1, 6, 256, math.MaxInt, math.MinInt} {
		for _, player := range numbers {
			for _, value := range numbers {
				for _, event := range numbers {
					outside := func(n int) bool { return n < 0 || n > 1_000_000 }
					want := api.OK
					switch {
					case kind < 1 || kind > 5:
						want = api.ErrType
					case outside(player) || outside(value) || outside(event):
						want = api.ErrRange
					}
					m := api.Mark{Kind: kind, Player: player, Value: value, Event: event}
					if s, e := milestone.Text(m); e != want || (s == "") != (e != api.OK) {
						t.Errorf("%+v: %q, %d, want %d", m, s, e, want)
					}
				}
			}
		}
	}
}

func TestParse(t *testing.T) {
	s, met := rand.New(rand.NewSource(5)), map[api.Errno]int{}
	const signs = "0123456789-+ ABCDEHIKLMNORSTWbt\x00\n\t"
	for range 20_000 {
		number := func() int { return []int{s.Intn(12), s.Intn(1000), s.Intn(1_000_001)}[s.Intn(3)] }
		m := api.Mark{Kind: 1 + s.Intn(5), Player: number(), Value: number(), Event: number()}
		word := []string{"BATTER", "BOWLER", "TEAM", "STAND", "HATTRICK"}[m.Kind-1]
		want := fmt.Sprintf("%s %d %d %d", word, m.Player, m.Value, m.Event)
		text, e := milestone.Text(m)
		if text != want || e != api.OK {
			t.Fatalf("%+v: %q, %d, want %q", m, text, e, want)
		}
		if got, e := milestone.Parse(text); got != m || e != api.OK {
			t.Fatalf("%q: %+v, %d", text, got, e)
		}
		// A text with a wrong byte is none, or it is that of another mark.
		b, at := []byte(text), s.Intn(len(text)+1)
		sign := signs[s.Intn(len(signs))]
		switch s.Intn(3) {
		case 0:
			b = slices.Insert(b, at, sign)
		case 1:
			b = slices.Delete(b, min(at, len(b)), min(at+1+s.Intn(3), len(b)))
		default:
			b = append(b[:at], sign)
		}
		got, e := milestone.Parse(string(b))
		met[e]++
		if again, bad := milestone.Text(got); e == api.OK && (again != string(b) || bad != api.OK) || e != api.OK && (e != api.ErrForm || got != api.Mark{}) {
			t.Fatalf("%q: %+v, %d, whose text is %q, %d", b, got, e, again, bad)
		}
	}
	if len(met) != 2 || met[api.OK] < 1000 || met[api.ErrForm] < 1000 {
		t.Errorf("met: %v", met)
	}
}

func TestParseErrors(t *testing.T) {
	for _, s := range []string{
		"", " ", "   ", "BATTER", "BATTER ", "BATTER 1", "BATTER 1 2", "BATTER 1 2 ", "BATTER 1 2 3 ", " BATTER 1 2 3", "BATTER 1 2 3 4", "BATTER  1 2 3", "BATTER 1  2 3", "BATTER 1 2  3", "BATTER\t1 2 3", "BATTER 1 2 3\n", "BATTER 1 2 3\x00",
		"1 2 3", "1 1 2 3", " 1 2 3", "batter 1 2 3", "Batter 1 2 3", "BATTERS 1 2 3", "BAT 1 2 3", "RUNS 1 2 3", "NONE 1 2 3", "HAT 1 2 3", "HATTRICK", "HAT TRICK 1 2 3", "BATTER1 2 3", "TEAM 100 10", "STAND 100 10", "TEAM - 100 10",
		"BATTER 01 2 3", "BATTER 1 02 3", "BATTER 1 2 03", "BATTER 00 2 3", "BATTER +1 2 3", "BATTER -1 2 3", "BATTER 1 -2 3", "BATTER 1 2 -3", "BATTER -0 2 3", "BATTER 1 2 -0",
		"BATTER 1000001 2 3", "BATTER 1 1000001 3", "BATTER 1 2 1000001", "BATTER 99999999999999999999 2 3", "BATTER 1 18446744073709551617 3", "BATTER 1e1 2 3", "BATTER 1_0 2 3", "BATTER 1.0 2 3", "BATTER a 2 3", "BATTER 1,2,3", "BATTER 1 2 x3",
	} {
		if m, e := milestone.Parse(s); m != (api.Mark{}) || e != api.ErrForm {
			t.Errorf("%q: %+v, %d", s, m, e)
		}
	}
}
