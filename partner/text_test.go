package partner_test

import (
	"fmt"
	"math"
	"math/rand"
	"slices"
	"strings"
	"testing"

	"scorebook/api"
	"scorebook/partner"
)

// P26.3

func TestText(t *testing.T) {
	if partner.MaxNumber != 1_000_000 {
		t.Errorf("MaxNumber is %d", partner.MaxNumber)
	}
	for _, x := range []struct {
		falls []api.Fall
		want  string
	}{
		{nil, ""},
		{[]api.Fall{{}}, "0-0 (0)"},
		{[]api.Fall{{Wicket: 1, Runs: 12, Player: 3}}, "1-12 (3)"},
		{[]api.Fall{{Wicket: 1, Runs: 12, Player: 3, Balls: 20}, {Wicket: 2, Runs: 40, Player: 1, Balls: 37}}, "1-12 (3), 2-40 (1)"},
		{[]api.Fall{{Wicket: 9, Runs: 5, Player: 11, Balls: -1}, {Wicket: 3, Runs: 2, Player: 11, Balls: math.MinInt}, {Balls: math.MaxInt}}, "9-5 (11), 3-2 (11), 0-0 (0)"},
		{[]api.Fall{{Wicket: 1_000_000, Runs: 1_000_000, Player: 1_000_000, Balls: 1_000_001}}, "1000000-1000000 (1000000)"},
		{make([]api.Fall, 3000), "0-0 (0)" + strings.Repeat(", 0-0 (0)", 2999)},
	} {
		s, e := partner.Text(x.falls)
		if s != x.want || e != api.OK {
			t.Errorf("%+v: %q, %d, want %q", x.falls, s, e, x.want)
		}
		l, e := partner.Parse(x.want)
		if !slices.Equal(l, withoutBalls(x.falls)) || e != api.OK {
			t.Errorf("%q: %+v, %d, want %+v without balls", x.want, l, e, x.falls)
		}
	}
}

// withoutBalls returns falls without their balls.
func withoutBalls(l []api.Fall) []api.Fall {
	l = slices.Clone(l)
	for i := range l {
		l[i].Balls = 0
	}
	return l
}

func TestTextErrors(t *testing.T) {
	good := api.Fall{Wicket: 1, Runs: 12, Player: 3}
	for _, n := range []int{-1, 1_000_001, math.MaxInt, math.MinInt} {
		for name, wrong := range map[string]api.Fall{"wicket": {Wicket: n, Runs: 1, Player: 1}, "runs": {Wicket: 1, Runs: n, Player: 1}, "player": {Wicket: 1, Runs: 1, Player: n}} {
			for _, l := range [][]api.Fall{{wrong}, {good, wrong}, {wrong, good}, {good, wrong, good}} {
				if s, e := partner.Text(l); s != "" || e != api.ErrRange {
					t.Errorf("the %s %d in %+v: %q, %d", name, n, l, s, e)
				}
			}
		}
	}
}

// randomFalls returns some falls that have a text.
func randomFalls(s *rand.Rand) []api.Fall {
	l := make([]api.Fall, s.Intn(5))
	for i := range l {
		number := func() int { return []int{s.Intn(12), s.Intn(1000), s.Intn(1_000_001)}[s.Intn(3)] }
		l[i] = api.Fall{Wicket: number(), Runs: number(), Player: number(), Balls: s.Intn(100)}
	}
	return l
}

func TestParse(t *testing.T) {
	s, met := rand.New(rand.NewSource(4)), map[api.Errno]int{}
	const signs = "0123456789-+ (),x\x00\n"
	for range 20_000 {
		l := randomFalls(s)
		var parts []string
		for _, f := range l {
			parts = append(parts, fmt.Sprintf("%d-%d (%d)", f.Wicket, f.Runs, f.Player))
		}
		want := strings.Join(parts, ", ")
		text, e := partner.Text(l)
		if text != want || e != api.OK {
			t.Fatalf("%+v: %q, %d, want %q", l, text, e, want)
		}
		if got, e := partner.Parse(text); !slices.Equal(got, withoutBalls(l)) || e != api.OK {
			t.Fatalf("%q: %+v, %d", text, got, e)
		}
		// A text with a wrong byte is none, or it is that of other falls.
		b, at := []byte(text), s.Intn(len(text)+1)
		sign := signs[s.Intn(len(signs))]
		switch s.Intn(3) {
		case 0:
			b = slices.Insert(b, at, sign)
		case 1:
			b = slices.Delete(b, min(at, len(b)), min(at+1+s.Intn(3), len(b)))
		default:
			b = append(b[:at], sign)
		}
		got, e := partner.Parse(string(b))
		met[e]++
		if again, bad := partner.Text(got); e == api.OK && (again != string(b) || bad != api.OK) || e != api.OK && (e != api.ErrForm || len(got) != 0) {
			t.Fatalf("%q: %+v, %d, whose text is %q, %d", b, got, e, again, bad)
		}
	}
	if len(met) != 2 || met[api.OK] < 1000 || met[api.ErrForm] < 1000 {
		t.Errorf("met: %v", met)
	}
}

func TestParseErrors(t *testing.T) {
	for _, s := range []string{
		" ", ",", ", ", "-", "()", "1", "1-", "1-10", "1-10 ", "1-10 (", "1-10 ()", "1-10 (1", "1-10 1)", "1-10 (1))", "1-10 ((1)", "1-10(1)", "1-10  (1)", "1- 10 (1)", " 1-10 (1)", "1-10 (1) ", "1-10 (1)\n",
		"1-10 (1),", "1-10 (1), ", ", 1-10 (1)", "1-10 (1),2-16 (3)", "1-10 (1),  2-16 (3)", "1-10 (1) 2-16 (3)", "1-10 (1); 2-16 (3)", "1-10 (1), , 2-16 (3)", "1-10 (1), 2-16", "1-10 (1), 2", "1-10 (1, 2)", "1-10 (1)2-16 (3)",
		"01-10 (1)", "1-010 (1)", "1-10 (01)", "00-10 (1)", "+1-10 (1)", "1-+10 (1)", "1-10 (+1)", "-1-10 (1)", "1--10 (1)", "1-10 (-1)", "-0-10 (1)", "1--0 (1)", "1-10 (-0)", "-10 (1)", "1- (1)", "1 10 (1)", "1–10 (1)",
		"1000001-10 (1)", "1-1000001 (1)", "1-10 (1000001)", "99999999999999999999-10 (1)", "1-99999999999999999999 (1)", "1-10 (99999999999999999999)", "18446744073709551617-1 (1)", "1e1-10 (1)", "1_0-10 (1)", "1-10.0 (1)", "a-10 (1)", "1-b (1)", "1-10 (c)", "1/10 (1)", "1-10 (1)\x00",
	} {
		if l, e := partner.Parse(s); len(l) != 0 || e != api.ErrForm {
			t.Errorf("%q: %+v, %d", s, l, e)
		}
	}
}
