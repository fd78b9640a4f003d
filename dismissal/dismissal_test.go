package dismissal_test

import (
	"math"
	"slices"
	"strings"
	"testing"

	"scorebook/api"
	"scorebook/dismissal"
	"scorebook/notation"
)

// table is that of the document, in its order.
const table = `
Bowled      BOWLED      Fair            none   striker
Caught      CAUGHT      Fair            one    striker
LegBefore   LBW         Fair            none   striker
Stumped     STUMPED     Fair,Wide       one    striker
HitWicket   HITWICKET   Fair,Wide       none   striker
RunOut      RUNOUT      Fair,Wide,No    two    either
HitTwice    HITTWICE    Fair,No         none   striker
Obstructing OBSTRUCTING Fair,Wide,No    none   either
TimedOut    TIMEDOUT    -               none   new
RetiredOut  RETIRED     -               none   batter`

// row is a row of the table.
type row struct {
	how                  api.How
	name                 string
	types                []api.Type
	must, second, either bool
	onFreeHit            bool
}

func rows() []row {
	var l []row
	for i, line := range strings.Split(strings.TrimSpace(table), "\n") {
		f := strings.Fields(line)
		r := row{how: api.Bowled + api.How(i), name: f[1], must: f[3] != "none", second: f[3] == "two", either: f[4] == "either"}
		for j, name := range []string{"Fair", "Wide", "No"} {
			if slices.Contains(strings.Split(f[2], ","), name) {
				r.types = append(r.types, api.Fair+api.Type(j))
			}
		}
		r.onFreeHit = slices.Contains([]string{"RunOut", "HitTwice", "Obstructing"}, f[0])
		l = append(l, r)
	}
	return l
}

// rowOf returns the row of a way that is possible on a delivery.
func rowOf(l []row, d api.Delivery, free bool) (row, bool) {
	for _, r := range l {
		if r.how == d.How && slices.Contains(r.types, d.Type) && (r.onFreeHit || !free) {
			return r, true
		}
	}
	return row{}, false
}

// law returns the first law that refuses what a delivery says of a dismissal, as the document lists them.
func law(l []row, d api.Delivery, free bool) api.Law {
	if d.How == api.NotOut {
		if d.Victim != 0 {
			return api.LawVictim
		}
		if d.Fielder != 0 || d.Second != 0 || d.Sub {
			return api.LawFielder
		}
		return api.Legal
	}
	r, ok := rowOf(l, d, free)
	if !ok {
		return api.LawDismissal
	}
	if d.How != api.RunOut && d.How != api.Obstructing && (d.Source != api.NoRuns || d.Runs != 0) {
		return api.LawRuns
	}
	if d.Victim != 1 && !(r.either && d.Victim == 2) {
		return api.LawVictim
	}
	if r.must && (d.Fielder < 1 || d.Fielder > 11) || !r.must && d.Fielder != 0 {
		return api.LawFielder
	}
	if d.Second != 0 && (!r.second || d.Second < 1 || d.Second > 11 || d.Second == d.Fielder) {
		return api.LawFielder
	}
	if d.Sub && d.How != api.Caught && d.How != api.RunOut {
		return api.LawSubstitute
	}
	return api.Legal
}

func checkPossible(t *testing.T, d api.Delivery, free bool, want api.Law) {
	t.Helper()
	if law := dismissal.Possible(d, free); law != want {
		t.Errorf("Possible(%+v, %v) = %v, want %v", d, free, law, want)
	}
}

func checkSymbols(t *testing.T, free bool, want api.Law, symbols ...string) {
	t.Helper()
	for _, symbol := range symbols {
		d, e := notation.Parse(symbol)
		if law := dismissal.Possible(d, free); law != want || e != api.OK {
			t.Errorf("Possible of %q, %v = %v, want %v", symbol, free, law, want)
		}
	}
}

// P10.1

func TestWays(t *testing.T) {
	for kind := range 256 {
		for _, free := range []bool{false, true} {
			var want []api.How
			for _, r := range rows() {
				if slices.Contains(r.types, api.Type(kind)) && (r.onFreeHit || !free) {
					want = append(want, r.how)
				}
			}
			if got := dismissal.Ways(api.Type(kind), free); !slices.Equal(got, want) {
				t.Errorf("Ways(%d, %v) = %v, want %v", kind, free, got, want)
			}
		}
	}
}

func TestWaysOfExamples(t *testing.T) {
	runOuts := []api.How{api.RunOut, api.HitTwice, api.Obstructing}
	for _, x := range []struct {
		kind api.Type
		free bool
		want []api.How
	}{
		{api.Fair, false, []api.How{api.Bowled, api.Caught, api.LegBefore, api.Stumped, api.HitWicket, api.RunOut, api.HitTwice, api.Obstructing}},
		{api.Fair, true, runOuts},
		{api.WideBall, false, []api.How{api.Stumped, api.HitWicket, api.RunOut, api.Obstructing}},
		{api.WideBall, true, []api.How{api.RunOut, api.Obstructing}},
		{api.NoBall, false, runOuts},
		{api.NoBall, true, runOuts},
		{0, false, nil},
		{4, true, nil},
	} {
		if got := dismissal.Ways(x.kind, x.free); !slices.Equal(got, x.want) {
			t.Errorf("Ways(%v, %v) = %v, want %v", x.kind, x.free, got, x.want)
		}
	}
}

func TestWaysAreNewEachTime(t *testing.T) {
	l := dismissal.Ways(api.Fair, false)
	kept := slices.Clone(l)
	clear(dismissal.Ways(api.Fair, false))
	if !slices.Equal(l, kept) || !slices.Equal(dismissal.Ways(api.Fair, false), kept) {
		t.Error("results of Ways share memory")
	}
}

// P10.2

func TestPossible(t *testing.T) {
	checkSymbols(t, false, api.Legal, ".", "0", "1", "w", "n.", "F", "./B1", "./C1(5)", "./C1(11s)@3", "./L1", "./S1(5)", "w/S1(1)", "./H1", "w/H1")
	checkSymbols(t, false, api.Legal, "./R1(1)", "./R2(11)", "1x/R2(4,7s)", "w2/R1(4,11)", "nb3/R2(11,1)", "./T1", "n./T1", "./O1", "2/O2", "w1/O1", "nl1/O2")
	checkSymbols(t, true, api.Legal, ".", "F", "w", "./R1(4)", "1/R2(4s)", "w/R1(4,5)", "n1/R1(4)", "./T1", "n./T1", "1/O1", "w/O2", "n./O2")
}

func TestPossibleWithoutADismissal(t *testing.T) {
	for _, free := range []bool{false, true} {
		checkSymbols(t, free, api.LawVictim, "./N1", "1/N2", "w/N1(5)", "n./N2(0,5s)")
		checkSymbols(t, free, api.LawFielder, "./N0(5)", "1/N0(0,5)", "w/N0(0s)", "n./N0(11,1s)")
	}
	checkPossible(t, api.Delivery{}, true, api.Legal)
	checkPossible(t, api.Delivery{Victim: -1, Sub: true}, false, api.LawVictim)
	checkPossible(t, api.Delivery{Fielder: -1}, false, api.LawFielder)
	checkPossible(t, api.Delivery{Second: math.MinInt}, false, api.LawFielder)
}

func TestPossibleRefusesDismissals(t *testing.T) {
	checkSymbols(t, false, api.LawDismissal, "n./B1", "w/B1", "w/C1(5)", "n./C1(5)", "w/L1", "n./L1", "n./S1(5)", "n./H1", "w/T1", "./M0", "./M1", "./Q1", "w/Q1", "n./Q2")
	checkSymbols(t, true, api.LawDismissal, "./B1", "./C1(5)", "./L1", "./S1(5)", "./H1", "w/S1(5)", "w/H1", "w/T1", "n./B1", "./M1", "./Q1")
	checkPossible(t, api.Delivery{How: api.RunOut, Victim: 1, Fielder: 1}, false, api.LawDismissal)
	checkPossible(t, api.Delivery{Type: api.NoBall + 1, How: api.Obstructing, Victim: 1}, false, api.LawDismissal)
	checkPossible(t, api.Delivery{Type: api.Fair, How: api.RetiredOut + 1, Victim: 1}, false, api.LawDismissal)
	checkPossible(t, api.Delivery{Type: 255, How: 255, Victim: 1}, true, api.LawDismissal)
}

func TestPossibleRefusesRuns(t *testing.T) {
	checkSymbols(t, false, api.LawRuns, "1/C1(5)", "0/B1", "0/C1(5)", "b/L1", "l1/L1", ".1/S1(5)", "w1/S1(5)", "w1/H1", "wo/H1", "1/T1", "n0/T1")
	checkSymbols(t, true, api.LawRuns, "1/T1", "nb/T1")
	checkPossible(t, api.Delivery{Type: api.Fair, How: api.Bowled, Victim: 1, Runs: -1}, false, api.LawRuns)
	checkPossible(t, api.Delivery{Type: api.Fair, Source: 255, How: api.Bowled, Victim: 1}, false, api.LawRuns)
	checkPossible(t, api.Delivery{Type: api.Fair, Source: 255, Runs: math.MaxInt, How: api.Obstructing, Victim: 2}, false, api.Legal)
}

func TestPossibleRefusesVictims(t *testing.T) {
	checkSymbols(t, false, api.LawVictim, "./B2", "./B0", "./C2(5)", "./L2", "w/S2(5)", "./H2", "n./T2", "./T0", "./R0(4)", "1/O0")
	checkPossible(t, api.Delivery{Type: api.Fair, How: api.RunOut, Victim: 3, Fielder: 1}, false, api.LawVictim)
	checkPossible(t, api.Delivery{Type: api.Fair, How: api.Bowled, Victim: -1}, false, api.LawVictim)
}

func TestPossibleRefusesFielders(t *testing.T) {
	checkSymbols(t, false, api.LawFielder, "./C1", "./C1(0s)", "./S1", "./R1", "./R1(0,5)", "./B1(3)", "./L1(1)", "./H1(5s)", "./T1(5)", "./O2(5)")
	checkSymbols(t, false, api.LawFielder, "./C1(3,4)", "./S1(3,4)", "./B1(0,4)", "./O1(0,4)", "1/R2(5,5)", "./R1(11,11s)")
	for _, n := range []int{math.MinInt, -1, 12, math.MaxInt} {
		checkPossible(t, api.Delivery{Type: api.Fair, How: api.Caught, Victim: 1, Fielder: n}, false, api.LawFielder)
		checkPossible(t, api.Delivery{Type: api.Fair, How: api.Bowled, Victim: 1, Fielder: n}, false, api.LawFielder)
		checkPossible(t, api.Delivery{Type: api.Fair, How: api.RunOut, Victim: 1, Fielder: n, Second: 1}, false, api.LawFielder)
		checkPossible(t, api.Delivery{Type: api.Fair, How: api.RunOut, Victim: 1, Fielder: 1, Second: n}, false, api.LawFielder)
	}
}

func TestPossibleRefusesSubstitutes(t *testing.T) {
	checkSymbols(t, false, api.LawSubstitute, "./S1(5s)", "w/S1(5s)", "./B1(0s)", "./L1(0s)", "w/H1(0s)", "n./T1(0s)", "1/O2(0s)")
}

func TestPossibleHasFirstLaw(t *testing.T) {
	checkSymbols(t, false, api.LawVictim, "./N1(0s)")
	checkSymbols(t, false, api.LawDismissal, "n1/B2(5s)")
	checkSymbols(t, false, api.LawRuns, "1/B2(5s)")
	checkSymbols(t, false, api.LawVictim, "./B2(5s)")
	checkSymbols(t, false, api.LawFielder, "./B1(5s)", "./B1(0,5s)")
}

func TestPossibleIsComplete(t *testing.T) {
	l := rows()
	numbers := []int{-1, 0, 1, 2, 11, 12}
	for kind := range api.Type(5) {
		for how := range api.How(12) {
			for source := range api.Source(5) {
				for runs := -1; runs <= 2; runs++ {
					for victim := -1; victim <= 3; victim++ {
						for _, fielder := range numbers {
							for _, second := range numbers {
								d := api.Delivery{Type: kind, Source: source, Runs: runs, How: how, Victim: victim, Fielder: fielder, Second: second}
								checkFlags(t, l, d)
							}
						}
					}
				}
			}
		}
	}
}

// checkFlags checks a delivery with and without a substitute, as a free hit and as none.
func checkFlags(t *testing.T, l []row, d api.Delivery) {
	t.Helper()
	for _, sub := range []bool{false, true} {
		for _, free := range []bool{false, true} {
			d.Sub = sub
			if got, want := dismissal.Possible(d, free), law(l, d, free); got != want {
				t.Fatalf("Possible(%+v, %v) = %v, want %v", d, free, got, want)
			}
		}
	}
}

func TestPossibleLooksAtNothingElse(t *testing.T) {
	for _, symbol := range []string{".", "./B1", "./N1", "./N0(5)", "1/C1(5)", "./B2", "./C1", "./S1(5s)", "1/R2(5,6s)", "w1/O2", "n./B1"} {
		d, _ := notation.Parse(symbol)
		for _, free := range []bool{false, true} {
			want := dismissal.Possible(d, free)
			for _, n := range []int{math.MinInt, -1, 4, 6, 9, math.MaxInt} {
				other := d
				other.Short, other.Boundary, other.Sector, other.Crossed = n, n, n, n > 0
				checkPossible(t, other, free, want)
			}
		}
	}
}

// P10.3

func TestVictim(t *testing.T) {
	for h := range 256 {
		for victim, want := range map[int]int{1: 7, 2: 8, 0: 0, 3: 0, -1: 0, math.MinInt: 0, math.MaxInt: 0} {
			if h == 0 {
				want = 0
			}
			if n := dismissal.Victim(api.Delivery{How: api.How(h), Victim: victim}, 7, 8); n != want {
				t.Errorf("Victim of way %d, victim %d = %d, want %d", h, victim, n, want)
			}
		}
	}
	// The players are taken as they are.
	for _, n := range []int{math.MinInt, 0, 12, math.MaxInt} {
		d := api.Delivery{Type: api.Fair, How: api.RunOut, Victim: 1}
		if got := dismissal.Victim(d, n, 5); got != n {
			t.Errorf("Victim(.., %d, 5) = %d", n, got)
		}
		d.Victim = 2
		if got := dismissal.Victim(d, 5, n); got != n {
			t.Errorf("Victim(.., 5, %d) = %d", n, got)
		}
	}
}

func TestFielders(t *testing.T) {
	for h := range 256 {
		var want row
		if h >= 1 && h <= 10 {
			want = rows()[h-1]
		}
		must, may, second := dismissal.Fielders(api.How(h))
		if must != want.must || may != want.must || second != want.second {
			t.Errorf("Fielders(%d) = %v, %v, %v", h, must, may, second)
		}
	}
}

// P10.4

func TestNames(t *testing.T) {
	names := map[api.How]string{api.NotOut: "NOTOUT"}
	for _, r := range rows() {
		names[r.how] = r.name
	}
	for i := range 256 {
		h := api.How(i)
		if s := dismissal.Name(h); s != names[h] {
			t.Errorf("Name(%d) = %q, want %q", i, s, names[h])
		}
		if names[h] == "" {
			continue
		}
		if back, e := dismissal.Parse(names[h]); back != h || e != api.OK {
			t.Errorf("Parse(%q) = %v, %v; want %d", names[h], back, e, i)
		}
	}
}

func TestParseRefuses(t *testing.T) {
	refused := []string{"", " ", "OUT", "NOT", "RUN OUT", "RUN-OUT", "LEGBEFORE", "RETIREDOUT", "TIMED", "B", "0", "1", "BOWLED CAUGHT", "BOWLEDCAUGHT", "\x00", "é", "\xff"}
	for _, r := range append(rows(), row{name: "NOTOUT"}) {
		refused = append(refused, strings.ToLower(r.name), " "+r.name, r.name+" ", r.name+"\n", r.name+"\x00", r.name[1:], r.name[:len(r.name)-1], r.name+r.name, r.name+"S", strings.Repeat(r.name, 10_000))
	}
	for _, s := range refused {
		if h, e := dismissal.Parse(s); h != api.NotOut || e != api.ErrForm {
			t.Errorf("Parse(%q) = %v, %v; want ErrForm", s, h, e)
		}
	}
}
