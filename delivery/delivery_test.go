package delivery_test

import (
	"cmp"
	"math"
	"slices"
	"testing"

	"scorebook/api"
	"scorebook/delivery"
	"scorebook/notation"
)

func checkLegal(t *testing.T, d api.Delivery, want api.Law) {
	t.Helper()
	if law := delivery.Legal(d); law != want {
		t.Errorf("Legal(%+v) = %v, want %v", d, law, want)
	}
}

// parts are what decides whether the runs of a delivery go together.
type parts struct {
	kind     api.Type
	source   api.Source
	boundary int
}

// runsOf returns the least and the greatest runs that go together with the other parts.
func runsOf() map[parts][2]int {
	m := map[parts][2]int{
		{api.WideBall, api.NoRuns, 0}: {0, 7},
		{api.WideBall, api.NoRuns, 4}: {0, 7},
	}
	for _, kind := range []api.Type{api.Fair, api.NoBall} {
		m[parts{kind, api.NoRuns, 0}] = [2]int{0, 0}
		m[parts{kind, api.OffBat, 0}] = [2]int{1, 7}
		m[parts{kind, api.OffBat, 4}] = [2]int{0, 7}
		m[parts{kind, api.OffBat, 6}] = [2]int{0, 0}
		for _, source := range []api.Source{api.Byes, api.LegByes} {
			m[parts{kind, source, 0}] = [2]int{1, 7}
			m[parts{kind, source, 4}] = [2]int{0, 7}
		}
	}
	return m
}

// law returns the first law that refuses a delivery, as the document lists them.
func law(d api.Delivery, together map[parts][2]int) api.Law {
	if d.Type < 1 || d.Type > 3 || d.Source > 3 || d.How > 10 || d.Sector < 0 || d.Sector > 8 {
		return api.LawDelivery
	}
	if d.Runs < 0 || d.Runs > 7 || d.Short < 0 || d.Short > d.Runs || !slices.Contains([]int{0, 4, 6}, d.Boundary) {
		return api.LawRuns
	}
	if runs, ok := together[parts{d.Type, d.Source, d.Boundary}]; !ok || d.Runs < runs[0] || d.Runs > runs[1] {
		return api.LawDelivery
	}
	if d.Sector != 0 && d.Source != api.OffBat && d.How != api.Caught {
		return api.LawDelivery
	}
	if d.Boundary != 0 && d.How != api.NotOut {
		return api.LawDelivery
	}
	if d.Crossed && d.How != api.RunOut && d.How != api.Obstructing {
		return api.LawDelivery
	}
	return api.Legal
}

// deliveries calls a function with deliveries that have every value of each part, in and around its range.
func deliveries(visit func(d api.Delivery)) {
	for kind := range api.Type(5) {
		for source := range api.Source(5) {
			for how := range api.How(12) {
				for _, sector := range []int{-1, 0, 1, 8, 9} {
					runs(api.Delivery{Type: kind, Source: source, How: how, Sector: sector}, visit)
				}
			}
		}
	}
}

// runs calls a function with deliveries that have every number of runs and all else of a delivery.
func runs(d api.Delivery, visit func(d api.Delivery)) {
	for n := -1; n <= 8; n++ {
		for short := -1; short <= 8; short++ {
			for _, boundary := range []int{-4, 0, 2, 3, 4, 5, 6, 8} {
				for _, crossed := range []bool{false, true} {
					d.Runs, d.Short, d.Boundary, d.Crossed = n, short, boundary, crossed
					visit(d)
				}
			}
		}
	}
}

// P9.1

func checkSymbols(t *testing.T, want api.Law, symbols ...string) {
	t.Helper()
	for _, symbol := range symbols {
		d, e := notation.Parse(symbol)
		if law := delivery.Legal(d); law != want || e != api.OK {
			t.Errorf("Legal of %q = %v, want %v", symbol, law, want)
		}
	}
}

func TestLegalOfSymbols(t *testing.T) {
	checkSymbols(t, api.Legal, ".", "1", "7", "7-7", "F", "1F", "7F-7", "S", "b1", "bF", "b7F", "l3-1", "lF")
	checkSymbols(t, api.Legal, "w", "w7-2", "wF", "w3F", "n.", "n1", "nF", "n7F", "nS", "nb2", "nbF", "nl2", "nlF")
	checkSymbols(t, api.Legal, "1@8", "F@1", "n2@3", "./C1(5)@3", "b1/C1(5)@3", "./B1", "1x/R2(4,7s)", "2x/O1", "w/S1(3)", "wx/O2")
	// Whether a batter can be out so is a matter of layer 10.
	checkSymbols(t, api.Legal, "1/C1(5)", "w/C1(5)@3", "n./B2(5,6s)", "./Q0", "./N2(0,3s)")
}

func TestLegalRefusesSymbols(t *testing.T) {
	checkSymbols(t, api.LawDelivery, "0", "n0", "0/C1(5)", ".1", ".F", ".S", "n.1", "n.F", "b", "nb", "bS", "l", "nl", "lS", "b6S", "5S", "n1S")
	checkSymbols(t, api.LawDelivery, "wS", "w1S", "wo", "wo1", "woF", "wb1", "wl4F")
	checkSymbols(t, api.LawDelivery, ".@1", "b1@1", "lF@8", "w1@1", "./B1@3", "b1/R1(5)@3")
	checkSymbols(t, api.LawDelivery, "F/R1(5)", "S/C1(5)", "bF/B1", "wF/O1", "1F/T1", "1x", "Fx", "wx", ".x/B1", ".x/C1(5)", "n.x/T1", ".x/Q0")
}

func TestLegalIsComplete(t *testing.T) {
	together := runsOf()
	legal := 0
	deliveries(func(d api.Delivery) {
		want := law(d, together)
		if want == api.Legal {
			legal++
		}
		if got := delivery.Legal(d); got != want {
			t.Fatalf("Legal(%+v) = %v, want %v", d, got, want)
		}
	})
	if legal == 0 {
		t.Error("no legal deliveries")
	}
}

func TestLegalOfExtremes(t *testing.T) {
	for kind := range 256 {
		if kind < 1 || kind > 3 {
			checkLegal(t, api.Delivery{Type: api.Type(kind)}, api.LawDelivery)
		}
		if kind > 3 {
			checkLegal(t, api.Delivery{Type: api.Fair, Source: api.Source(kind), Runs: 1}, api.LawDelivery)
		}
		if kind > 10 {
			checkLegal(t, api.Delivery{Type: api.Fair, How: api.How(kind)}, api.LawDelivery)
		}
	}
	for _, n := range []int{math.MinInt, -2, -1, 9, 10, math.MaxInt} {
		one := api.Delivery{Type: api.Fair, Source: api.OffBat, Runs: 1}
		sector, runs, short, boundary := one, one, one, one
		sector.Sector, runs.Runs, short.Short, boundary.Boundary = n, n, n, n
		checkLegal(t, sector, api.LawDelivery)
		checkLegal(t, runs, api.LawRuns)
		checkLegal(t, short, api.LawRuns)
		checkLegal(t, boundary, api.LawRuns)
		runs.Short = n
		checkLegal(t, runs, api.LawRuns)
	}
}

func TestLegalHasFirstLaw(t *testing.T) {
	for _, x := range []struct {
		d    api.Delivery
		want api.Law
	}{
		{api.Delivery{Runs: 8}, api.LawDelivery},
		{api.Delivery{Type: api.Fair, Source: 4, Short: 1}, api.LawDelivery},
		{api.Delivery{Type: api.Fair, How: 11, Boundary: 5}, api.LawDelivery},
		{api.Delivery{Type: api.Fair, Sector: 9, Runs: -1}, api.LawDelivery},
		{api.Delivery{Type: api.WideBall, Source: api.OffBat, Runs: 8}, api.LawRuns},
		{api.Delivery{Type: api.Fair, Sector: 1, Short: 1}, api.LawRuns},
		{api.Delivery{Type: api.Fair, Boundary: 5, How: api.Bowled}, api.LawRuns},
		{api.Delivery{Type: api.Fair, Crossed: true, Runs: 8}, api.LawRuns},
	} {
		checkLegal(t, x.d, x.want)
	}
}

func TestLegalLeavesWicketsToOthers(t *testing.T) {
	for _, n := range []int{math.MinInt, -1, 1, 3, 12, math.MaxInt} {
		checkLegal(t, api.Delivery{Type: api.Fair, Victim: n, Fielder: n, Second: n, Sub: true}, api.Legal)
		checkLegal(t, api.Delivery{Type: api.WideBall, How: api.Bowled, Victim: n, Fielder: n, Second: n}, api.Legal)
		checkLegal(t, api.Delivery{Victim: n, Fielder: n, Second: n}, api.LawDelivery)
	}
}

// P9.2

func TestCredited(t *testing.T) {
	credited := []api.How{api.Bowled, api.Caught, api.LegBefore, api.Stumped, api.HitWicket}
	for h := range 256 {
		if got, want := delivery.Credited(api.How(h)), slices.Contains(credited, api.How(h)); got != want {
			t.Errorf("Credited(%d) = %v", h, got)
		}
	}
}

// P9.3

// part says how often a party gets the runs n of a delivery, those for a wide and those for a no-ball.
type part struct{ n, wide, noBall int }

// share says what each party gets of a type and source.
type share struct {
	kind                                          api.Type
	source                                        api.Source
	batter, wides, noBalls, byes, legByes, bowler part
}

func shares() []share {
	n, noBall := part{n: 1}, part{noBall: 1}
	wide := part{n: 1, wide: 1}
	return []share{
		{kind: api.Fair, source: api.OffBat, batter: n, bowler: n},
		{kind: api.Fair, source: api.Byes, byes: n},
		{kind: api.Fair, source: api.LegByes, legByes: n},
		{kind: api.Fair, source: api.NoRuns},
		{kind: api.WideBall, source: api.NoRuns, wides: wide, bowler: wide},
		{kind: api.NoBall, source: api.OffBat, batter: n, noBalls: noBall, bowler: part{n: 1, noBall: 1}},
		{kind: api.NoBall, source: api.Byes, noBalls: noBall, byes: n, bowler: noBall},
		{kind: api.NoBall, source: api.LegByes, noBalls: noBall, legByes: n, bowler: noBall},
		{kind: api.NoBall, source: api.NoRuns, noBalls: noBall, bowler: noBall},
	}
}

// credit returns what each party gets of a legal delivery, by the table of the document.
func credit(r api.Rules, d api.Delivery) api.Credit {
	i := slices.IndexFunc(shares(), func(s share) bool { return s.kind == d.Type && s.source == d.Source })
	s := shares()[i]
	value := func(p part) int { return p.n*(d.Runs-d.Short+d.Boundary) + p.wide*r.Wide + p.noBall*r.NoBall }
	ends := d.Runs
	if d.Crossed {
		ends++
	}
	return api.Credit{
		Batter: value(s.batter), Wides: value(s.wides), NoBalls: value(s.noBalls), Byes: value(s.byes), LegByes: value(s.legByes),
		Bowler: value(s.bowler),
		Counts: d.Type == api.Fair,
		Faced:  d.Type == api.Fair || d.Type == api.NoBall,
		Wicket: d.How >= api.Bowled && d.How <= api.HitWicket,
		Swap:   ends%2 == 1,
	}
}

func checkCredit(t *testing.T, r api.Rules, d api.Delivery, want api.Credit) {
	t.Helper()
	if c := delivery.Credit(r, d); c != want {
		t.Errorf("Credit(%+v, %+v) = %+v, want %+v", r, d, c, want)
	}
}

func TestCreditOfSymbols(t *testing.T) {
	r := api.Rules{Wide: 1, NoBall: 1}
	for symbol, want := range map[string]api.Credit{
		".":           {Counts: true, Faced: true},
		"w2":          {Wides: 3, Bowler: 3},
		"w1":          {Wides: 2, Bowler: 2, Swap: true},
		"wF":          {Wides: 5, Bowler: 5},
		"nF":          {Batter: 4, NoBalls: 1, Bowler: 5, Faced: true},
		"l3-1":        {LegByes: 2, Counts: true, Faced: true, Swap: true},
		"b2-1":        {Byes: 1, Counts: true, Faced: true},
		"1F":          {Batter: 5, Bowler: 5, Counts: true, Faced: true, Swap: true},
		"S":           {Batter: 6, Bowler: 6, Counts: true, Faced: true},
		"nb2":         {NoBalls: 1, Byes: 2, Bowler: 1, Faced: true},
		"n.":          {NoBalls: 1, Bowler: 1, Faced: true},
		"./B1":        {Counts: true, Faced: true, Wicket: true},
		"w/S1(3)":     {Wides: 1, Bowler: 1, Wicket: true},
		".x/R1(4)":    {Counts: true, Faced: true, Swap: true},
		"1x/R2(4,7s)": {Batter: 1, Bowler: 1, Counts: true, Faced: true},
		"2x/O1":       {Batter: 2, Bowler: 2, Counts: true, Faced: true, Swap: true},
		"./N1(5s)":    {Counts: true, Faced: true}, // Victim and fielders are a matter of layer 10
		"0":           {},
		"bS":          {},
		"wo1":         {},
		"1x":          {},
		"F/R1(5)":     {},
	} {
		d, e := notation.Parse(symbol)
		if e != api.OK {
			t.Errorf("%q is no symbol", symbol)
		}
		checkCredit(t, r, d, want)
	}
}

func TestCreditIsComplete(t *testing.T) {
	all := []api.Rules{{Wide: 1, NoBall: 1}, {Wide: 5, NoBall: 2}, {Wide: 2, NoBall: 5}, {}}
	together := runsOf()
	deliveries(func(d api.Delivery) {
		want := api.Credit{}
		for _, r := range all {
			if law(d, together) == api.Legal {
				want = credit(r, d)
			}
			if c := delivery.Credit(r, d); c != want {
				t.Fatalf("Credit(%+v, %+v) = %+v, want %+v", r, d, c, want)
			}
		}
	})
}

func TestCreditTakesTheRulesAsTheyAre(t *testing.T) {
	wide, noBall := api.Delivery{Type: api.WideBall, Runs: 1}, api.Delivery{Type: api.NoBall, Source: api.OffBat, Runs: 1}
	for _, n := range []int{math.MinInt, -1, 0, 6, math.MaxInt} {
		r := api.Rules{Wide: n, NoBall: n}
		checkCredit(t, r, wide, api.Credit{Wides: n + 1, Bowler: n + 1, Swap: true})
		checkCredit(t, r, noBall, api.Credit{Batter: 1, NoBalls: n, Bowler: n + 1, Faced: true, Swap: true})
	}
	full := api.Rules{Name: "X", Side: 11, Innings: 2, Overs: 5, Balls: 8, Quota: 3, FreeHit: true, Wide: 2, NoBall: 3}
	checkCredit(t, full, wide, api.Credit{Wides: 3, Bowler: 3, Swap: true})
}

// P9.4

func TestTotal(t *testing.T) {
	for _, x := range []struct {
		c    api.Credit
		want int
	}{
		{api.Credit{}, 0},
		{api.Credit{Batter: 1}, 1},
		{api.Credit{Wides: 20}, 20},
		{api.Credit{NoBalls: 300}, 300},
		{api.Credit{Byes: 4000}, 4000},
		{api.Credit{LegByes: 50_000}, 50_000},
		{api.Credit{Bowler: 7, Counts: true, Faced: true, Wicket: true, Swap: true}, 0},
		{api.Credit{Batter: 1, Wides: 20, NoBalls: 300, Byes: 4000, LegByes: 50_000, Bowler: 321}, 54_321},
		{api.Credit{Batter: math.MaxInt, Byes: 1}, math.MinInt},
		{api.Credit{Batter: -5, LegByes: 3}, -2},
	} {
		if n := delivery.Total(x.c); n != x.want {
			t.Errorf("Total(%+v) = %d, want %d", x.c, n, x.want)
		}
	}
}

func TestTotalIsThatOfTheBowlerWithByesAndLegByes(t *testing.T) {
	r := api.Rules{Wide: 3, NoBall: 2}
	together := runsOf()
	deliveries(func(d api.Delivery) {
		if law(d, together) != api.Legal {
			return
		}
		c := delivery.Credit(r, d)
		want := d.Runs - d.Short + d.Boundary
		switch d.Type {
		case api.WideBall:
			want += r.Wide
		case api.NoBall:
			want += r.NoBall
		}
		if n := delivery.Total(c); n != want || n != c.Bowler+c.Byes+c.LegByes {
			t.Fatalf("%+v: Total(%+v) = %d, want %d", d, c, n, want)
		}
	})
}

// P9.5

func TestAllOfNoRuns(t *testing.T) {
	var symbols []string
	for _, d := range delivery.All(0) {
		s, _ := notation.Print(d)
		symbols = append(symbols, s)
	}
	if want := []string{".", "F", "S", "bF", "lF", "w", "wF", "n.", "nF", "nS", "nbF", "nlF"}; !slices.Equal(symbols, want) {
		t.Errorf("All(0) has %q, want %q", symbols, want)
	}
}

func TestAllOfOneRun(t *testing.T) {
	var symbols []string
	for _, d := range delivery.All(1) {
		s, _ := notation.Print(d)
		symbols = append(symbols, s)
	}
	want := []string{
		".", "F", "S", "1", "1F", "bF", "b1", "b1F", "lF", "l1", "l1F",
		"w", "wF", "w1", "w1F",
		"n.", "nF", "nS", "n1", "n1F", "nbF", "nb1", "nb1F", "nlF", "nl1", "nl1F",
	}
	if !slices.Equal(symbols, want) {
		t.Errorf("All(1) has %q, want %q", symbols, want)
	}
}

func TestAllIsComplete(t *testing.T) {
	together := runsOf()
	for _, most := range []int{math.MinInt, -8, -1, 0, 1, 2, 3, 4, 5, 6, 7, 8, 100, math.MaxInt} {
		var want []api.Delivery
		deliveries(func(d api.Delivery) {
			if law(d, together) == api.Legal && d.Runs <= most && d.How == api.NotOut && d.Short == 0 && !d.Crossed && d.Sector == 0 {
				want = append(want, d)
			}
		})
		slices.SortFunc(want, func(a, b api.Delivery) int {
			return cmp.Or(cmp.Compare(a.Type, b.Type), cmp.Compare(a.Source, b.Source), cmp.Compare(a.Runs, b.Runs), cmp.Compare(a.Boundary, b.Boundary))
		})
		if got := delivery.All(most); !slices.Equal(got, want) {
			t.Errorf("All(%d) has %d deliveries, want %d:\n%v\n%v", most, len(got), len(want), got, want)
		}
	}
	for most, n := range map[int]int{-1: 0, 0: 12, 1: 26, 7: 110, 8: 110} {
		if l := delivery.All(most); len(l) != n {
			t.Errorf("All(%d) has %d deliveries, want %d", most, len(l), n)
		}
	}
}

func TestAllIsNewEachTime(t *testing.T) {
	l := delivery.All(7)
	kept := slices.Clone(l)
	other := delivery.All(7)
	clear(other)
	if !slices.Equal(l, kept) || !slices.Equal(delivery.All(7), kept) {
		t.Error("results of All share memory")
	}
}
