package linear_test

import (
	"math"
	"math/big"
	"math/rand"
	"slices"
	"testing"

	"scorebook/api"
	"scorebook/delivery"
	"scorebook/linear"
	"scorebook/log"
	"scorebook/match"
	"scorebook/notation"
	"scorebook/samples"
)

// forEachLog calls f with random logs of accepted events.
func forEachLog(seed int64, f func(r api.Rules, l []api.Event)) {
	s := rand.New(rand.NewSource(seed))
	for range 100 {
		for _, r := range []api.Rules{samples.Limited(), samples.Long()} {
			f(r, samples.Play(s.Intn, r, s.Intn(500)))
		}
	}
}

// mustWrite returns the rows of a log.
func mustWrite(t *testing.T, r api.Rules, l []api.Event) []api.Row {
	t.Helper()
	rows, e := linear.Write(r, l)
	if e != api.OK {
		t.Fatalf("%+v: Write has the error %d", l, e)
	}
	return rows
}

// P20.1

// written does what the document says of Write for an accepted log, from the states before and after each delivery.
func written(t *testing.T, r api.Rules, l []api.Event) []api.Row {
	t.Helper()
	var rows []api.Row
	m, _ := match.New(r)
	for _, e := range l {
		next, law := match.Step(m, e)
		if law != api.Legal {
			t.Fatalf("%+v is refused by law %d", e, law)
		}
		if e.Kind == api.BallEvent {
			n := len(m.Innings) - 1
			before, after := m.Innings[n], next.Innings[n]
			row := api.Row{Innings: n, Over: before.Complete, Ball: before.InOver, Bowler: before.Bowler, Striker: before.Striker, Partner: before.Other}
			row.Symbol, _ = notation.Print(e.Ball)
			row.Total, row.Wickets = after.Runs, after.Wickets
			rows = append(rows, row)
		}
		m = next
	}
	return rows
}

func TestWrite(t *testing.T) {
	met := map[string]int{}
	forEachLog(1, func(r api.Rules, l []api.Event) {
		want := written(t, r, l)
		rows, e := linear.Write(r, l)
		if e != api.OK || !slices.Equal(rows, want) {
			t.Fatalf("%s, %+v: %+v, %d, want %+v", r.Name, l, rows, e, want)
		}
		for _, x := range rows {
			met[x.Symbol]++
			if x.Innings == 3 {
				met["the fourth innings"]++
			}
		}
	})
	if met["the fourth innings"] == 0 || len(met) < 30 {
		t.Errorf("met: %v", met)
	}
}

// example is the example of the document: its rules, its log and its rows.
func example() (api.Rules, []api.Event, []api.Row) {
	r, l := samples.Example()
	return r, l, []api.Row{
		{Innings: 0, Over: 0, Ball: 0, Bowler: 1, Striker: 1, Partner: 2, Symbol: "1", Total: 1, Wickets: 0},
		{Innings: 0, Over: 0, Ball: 1, Bowler: 1, Striker: 2, Partner: 1, Symbol: "./B1", Total: 1, Wickets: 1},
		{Innings: 1, Over: 0, Ball: 0, Bowler: 2, Striker: 2, Partner: 1, Symbol: "w", Total: 1, Wickets: 0},
		{Innings: 1, Over: 0, Ball: 0, Bowler: 2, Striker: 2, Partner: 1, Symbol: "F", Total: 5, Wickets: 0},
	}
}

func TestWriteTells(t *testing.T) {
	r, l, want := example()
	if rows, e := linear.Write(r, l); e != api.OK || !slices.Equal(rows, want) {
		t.Errorf("the document's example: %+v, %d", rows, e)
	}
	for _, src := range []string{"", "TOSS 1 BAT\n", "TOSS 1 BAT\nOPEN 1 2\nKEEPER 2\nBOWL 1\n", "TOSS 1 BAT\nSTOP\n"} {
		if rows, e := linear.Write(r, samples.Log(src)); e != api.OK || len(rows) != 0 {
			t.Errorf("%q: %+v, %d", src, rows, e)
		}
	}
	// Penalty runs and a wicket between two deliveries show in the row after them.
	l = samples.Log("TOSS 2 BAT\nOPEN 3 4\nPENALTY 2 5\nKEEPER 3\nBOWL 1\nBALL n2\nRETIRE 3 OUT\nENTER 1\nPENALTY 2 5\nBALL 1\n")
	want = []api.Row{
		{Bowler: 1, Striker: 3, Partner: 4, Symbol: "n2", Total: 11},
		{Bowler: 1, Striker: 1, Partner: 4, Symbol: "1", Total: 17, Wickets: 1},
	}
	if rows, e := linear.Write(samples.Long(), l); e != api.OK || !slices.Equal(rows, want) {
		t.Errorf("penalty runs: %+v, %d", rows, e)
	}
}

func TestWriteErrors(t *testing.T) {
	for _, x := range []struct {
		l []api.Event
		e api.Errno
	}{
		{samples.Log("OPEN 1 2\n"), api.ErrLaw},
		{samples.Log("TOSS 1 BAT\nOPEN 1 2\nKEEPER 2\nBOWL 1\nBALL .\nBALL ./B2\n"), api.ErrLaw},
		{make([]api.Event, api.MaxEvents), api.ErrLaw},
		{make([]api.Event, api.MaxEvents+1), api.ErrLimit},
		{samples.Wides(api.MaxEvents + 1), api.ErrLimit},
	} {
		if rows, e := linear.Write(samples.Long(), x.l); e != x.e || len(rows) != 0 {
			t.Errorf("%d events: %d rows, %d, want %d", len(x.l), len(rows), e, x.e)
		}
		for want, r := range samples.Bad() {
			if rows, e := linear.Write(r, x.l); e != want || len(rows) != 0 {
				t.Errorf("%+v, %d events: %d rows, %d", r, len(x.l), len(rows), e)
			}
		}
	}
	rows, e := linear.Write(samples.Long(), samples.Wides(api.MaxEvents))
	if n := api.MaxEvents - 4; e != api.OK || len(rows) != n || rows[n-1].Total != n {
		t.Errorf("as many events as there may be: %d rows, %d", len(rows), e)
	}
}

// P20.2

// above reports whether a - b - c is at least least and a multiple of step, exactly.
func above(a, b, c, least, step int) bool {
	x := big.NewInt(int64(a))
	x.Sub(x, big.NewInt(int64(b)))
	x.Sub(x, big.NewInt(int64(c)))
	rest := new(big.Int).Mod(x, big.NewInt(int64(step)))
	return x.Cmp(big.NewInt(int64(least))) >= 0 && rest.Sign() == 0
}

// checkRow does what the document says of a row of Check, if the rows before it follow.
func checkRow(r api.Rules, rows []api.Row, i int) api.Errno {
	x := rows[i]
	d, e := notation.Parse(x.Symbol)
	if e != api.OK {
		return api.ErrForm
	}
	if delivery.Legal(d) != api.Legal {
		return api.ErrArg
	}
	for _, n := range []int{x.Bowler, x.Striker, x.Partner} {
		if n < 1 || n > r.Side {
			return api.ErrRange
		}
	}
	if x.Striker == x.Partner {
		return api.ErrRange
	}
	begins, continues, total, wickets := x.Innings >= 0, false, 0, 0
	if i > 0 {
		before := rows[i-1]
		begins = x.Innings > before.Innings
		if x.Innings == before.Innings {
			total, wickets = before.Total, before.Wickets
			was, _ := notation.Parse(before.Symbol)
			over, ball := before.Over, before.Ball
			if was.Type == api.Fair {
				ball++
			}
			if ball >= r.Balls {
				over, ball = over+1, 0
			}
			continues = x.Over == over && x.Ball == ball
		}
	}
	begins = begins && x.Innings < 2*r.Innings && x.Over == 0 && x.Ball == 0
	if !begins && !continues {
		return api.ErrOrder
	}
	least := 0
	if d.How != api.NotOut {
		least = 1
	}
	if !above(x.Total, total, delivery.Total(delivery.Credit(r, d)), 0, 5) || !above(x.Wickets, wickets, 0, least, 1) || x.Wickets > r.Side || x.Total > 1_000_000 {
		return api.ErrSum
	}
	return api.OK
}

// check does what the document says of Check, for rules without an error and rows that are not too many.
func check(r api.Rules, rows []api.Row) (int, api.Errno) {
	for i := range rows {
		if e := checkRow(r, rows, i); e != api.OK {
			return i, e
		}
	}
	return -1, api.OK
}

// oddNumber returns a number near n, or one that seldom fits.
func oddNumber(s *rand.Rand, n int) int {
	odd := []int{n - 1, n + 1, n + 5, n - 5, n + 10, 0, 1, -1, -5, 4, 5, math.MaxInt, math.MinInt, math.MaxInt - 4, math.MinInt + 4, 1_000_000, 1_000_001, 999_995}
	return odd[s.Intn(len(odd))]
}

// spoil changes a row.
func spoil(s *rand.Rand, x *api.Row) {
	wrong := append(samples.Symbols(), "", "x", "wo1", "5S", "/B1", "./", "8", " .", "1 ", "bS", "l", "w.", "./C1(12)")
	numbers := []*int{&x.Innings, &x.Over, &x.Ball, &x.Bowler, &x.Striker, &x.Partner, &x.Total, &x.Wickets, &x.Total, &x.Wickets}
	if i := s.Intn(len(numbers) + 2); i < len(numbers) {
		*numbers[i] = oddNumber(s, *numbers[i])
	} else {
		x.Symbol = wrong[s.Intn(len(wrong))]
	}
}

func TestCheck(t *testing.T) {
	s, met := rand.New(rand.NewSource(2)), map[api.Errno]int{}
	late := 0
	forEachLog(2, func(r api.Rules, l []api.Event) {
		rows := mustWrite(t, r, l)
		for range 40 {
			changed := slices.Clone(rows)
			if len(rows) > 0 {
				for range 1 + s.Intn(2) {
					spoil(s, &changed[s.Intn(len(rows))])
				}
				if i := s.Intn(len(rows)); s.Intn(4) == 0 {
					changed = slices.Delete(changed, i, min(len(rows), i+1+s.Intn(3)))
				}
			}
			at, e := linear.Check(r, changed)
			if wantAt, want := check(r, changed); at != wantAt || e != want {
				t.Fatalf("%s, %+v: %d, %d, want %d, %d", r.Name, changed, at, e, wantAt, want)
			}
			met[e]++
			if at > 5 {
				late++
			}
		}
	})
	for _, e := range []api.Errno{api.OK, api.ErrForm, api.ErrArg, api.ErrRange, api.ErrOrder, api.ErrSum} {
		if met[e] < 100 {
			t.Errorf("the error %d was met %d times", e, met[e])
		}
	}
	if len(met) != 6 || late < 1000 {
		t.Errorf("met: %v, %d of them late", met, late)
	}
}

// randomRow returns a row that may follow others, and what it should have in most of its fields.
func randomRow(s *rand.Rand, r api.Rules, rows []api.Row) api.Row {
	x := api.Row{Bowler: 1 + s.Intn(r.Side), Striker: 1 + s.Intn(r.Side), Partner: 1 + s.Intn(r.Side)}
	x.Symbol = samples.Symbols()[s.Intn(len(samples.Symbols()))]
	if n := len(rows); n > 0 {
		before := rows[n-1]
		x.Innings, x.Over, x.Ball, x.Total, x.Wickets = before.Innings, before.Over, before.Ball, before.Total, before.Wickets
		if d, _ := notation.Parse(before.Symbol); d.Type == api.Fair {
			x.Ball++
		}
		if x.Ball >= r.Balls {
			x.Over, x.Ball = x.Over+1, 0
		}
	}
	if s.Intn(12) == 0 {
		x.Innings, x.Over, x.Ball, x.Total, x.Wickets = x.Innings+s.Intn(3), 0, 0, 0, 0
	}
	d, _ := notation.Parse(x.Symbol)
	x.Total += delivery.Total(delivery.Credit(r, d)) + 5*max(0, s.Intn(6)-3)
	if d.How != api.NotOut {
		x.Wickets++
	}
	if s.Intn(12) == 0 {
		x.Wickets++
	}
	return x
}

func TestCheckOfRandomRows(t *testing.T) {
	s, longest, met := rand.New(rand.NewSource(3)), 0, map[api.Errno]int{}
	for range 3000 {
		for _, r := range []api.Rules{samples.Limited(), samples.Long()} {
			var rows []api.Row
			for range s.Intn(40) {
				x := randomRow(s, r, rows)
				if e := checkRow(r, append(rows, x), len(rows)); e == api.OK || s.Intn(30) == 0 {
					rows = append(rows, x)
				}
			}
			wantAt, want := check(r, rows)
			if at, e := linear.Check(r, rows); at != wantAt || e != want {
				t.Fatalf("%s, %+v: %d, %d, want %d, %d", r.Name, rows, at, e, wantAt, want)
			}
			met[want]++
			if want == api.OK {
				longest = max(longest, len(rows))
			}
		}
	}
	if met[api.OK] < 500 || met[api.ErrRange] < 100 || met[api.ErrOrder] < 50 || met[api.ErrSum] < 100 || longest < 15 {
		t.Errorf("met: %v, the longest with %d rows", met, longest)
	}
}

func TestCheckTells(t *testing.T) {
	r, _, good := example()
	for _, x := range []struct {
		name   string
		change func(l []api.Row) []api.Row
		at     int
		e      api.Errno
	}{
		{"the document's", func(l []api.Row) []api.Row { return l }, -1, api.OK},
		{"2 in the place of the first Total", func(l []api.Row) []api.Row { l[0].Total = 2; return l }, 0, api.ErrSum},
		{"6 in the place of the first Total", func(l []api.Row) []api.Row { l[0].Total = 6; return l }, 1, api.ErrSum},
		{"5 more in the first innings", func(l []api.Row) []api.Row { l[0].Total, l[1].Total = 6, 6; return l }, -1, api.OK},
		{"nothing", func(l []api.Row) []api.Row { return nil }, -1, api.OK},
		{"the second innings alone", func(l []api.Row) []api.Row { return l[2:] }, -1, api.OK},
		{"without the first row", func(l []api.Row) []api.Row { return l[1:] }, 0, api.ErrOrder},
		{"a row twice", func(l []api.Row) []api.Row { return slices.Insert(l, 1, l[0]) }, 1, api.ErrOrder},
		{"the wide twice", func(l []api.Row) []api.Row { return slices.Insert(l, 3, l[2]) }, 3, api.ErrSum},
		{"the innings in another order", func(l []api.Row) []api.Row { return append(l[2:], good[:2]...) }, 2, api.ErrOrder},
		{"an innings below 0", func(l []api.Row) []api.Row { l[0].Innings = -1; return l }, 0, api.ErrOrder},
		{"two innings below 0", func(l []api.Row) []api.Row { l[0].Innings, l[1].Innings = -1, -1; return l }, 0, api.ErrOrder},
		{"the least innings", func(l []api.Row) []api.Row { l[0].Innings = math.MinInt; return l }, 0, api.ErrOrder},
		{"an innings that there is not", func(l []api.Row) []api.Row { l[2].Innings, l[3].Innings = 2, 2; return l }, 2, api.ErrOrder},
		{"the greatest innings", func(l []api.Row) []api.Row { l[3].Innings = math.MaxInt; return l }, 3, api.ErrOrder},
		{"an innings that begins late", func(l []api.Row) []api.Row { l[2].Ball = 1; return l }, 2, api.ErrOrder},
		{"an innings that begins in the second over", func(l []api.Row) []api.Row { l[2].Over = 1; return l }, 2, api.ErrOrder},
		{"an over below 0", func(l []api.Row) []api.Row { l[0].Over = -1; return l }, 0, api.ErrOrder},
		{"a wide that counts", func(l []api.Row) []api.Row { l[3].Ball = 1; return l }, 3, api.ErrOrder},
		{"a ball that does not count", func(l []api.Row) []api.Row { l[1].Ball = 0; return l }, 1, api.ErrOrder},
		{"an over that ends early", func(l []api.Row) []api.Row { l[1].Over, l[1].Ball = 1, 0; return l }, 1, api.ErrOrder},
		{"a wicket that does not fall", func(l []api.Row) []api.Row { l[1].Wickets = 0; return l }, 1, api.ErrSum},
		{"a wicket between the balls", func(l []api.Row) []api.Row { l[1].Wickets = 2; return l }, -1, api.OK},
		{"a wicket too many", func(l []api.Row) []api.Row { l[1].Wickets = 3; return l }, 1, api.ErrSum},
		{"a wicket before the first ball", func(l []api.Row) []api.Row { l[2].Wickets, l[3].Wickets = 1, 1; return l }, -1, api.OK},
		{"a wicket that is taken back", func(l []api.Row) []api.Row { l[2].Wickets = 1; return l }, 3, api.ErrSum},
		{"a wicket less than none", func(l []api.Row) []api.Row { l[0].Wickets = -1; return l }, 0, api.ErrSum},
		{"the least wickets", func(l []api.Row) []api.Row { l[1].Wickets = math.MinInt; return l }, 1, api.ErrSum},
		{"the greatest wickets", func(l []api.Row) []api.Row { l[1].Wickets = math.MaxInt; return l }, 1, api.ErrSum},
		{"a Total of the innings before", func(l []api.Row) []api.Row { l[2].Total, l[3].Total = 2, 6; return l }, 2, api.ErrSum},
		{"a Total that is five runs too low", func(l []api.Row) []api.Row { l[3].Total = 0; return l }, 3, api.ErrSum},
		{"the least Total", func(l []api.Row) []api.Row { l[3].Total = math.MinInt; return l }, 3, api.ErrSum},
		{"the greatest Total", func(l []api.Row) []api.Row { l[3].Total = math.MaxInt; return l }, 3, api.ErrSum},
		{"as many runs as there may be", func(l []api.Row) []api.Row { l[0].Symbol, l[0].Total = ".", 1_000_000; return l[:1] }, -1, api.OK},
		{"too many runs", func(l []api.Row) []api.Row { l[0].Symbol, l[0].Total = ".", 1_000_005; return l[:1] }, 0, api.ErrSum},
		{"runs beyond the bound by a ball", func(l []api.Row) []api.Row { l[0].Total, l[1].Total = 1_000_001, 1_000_001; return l }, 0, api.ErrSum},
		{"no symbol", func(l []api.Row) []api.Row { l[2].Symbol = ""; return l }, 2, api.ErrForm},
		{"a delivery that there is not", func(l []api.Row) []api.Row { l[2].Symbol = "wo1"; return l }, 2, api.ErrArg},
		{"no bowler", func(l []api.Row) []api.Row { l[2].Bowler = 0; return l }, 2, api.ErrRange},
		{"a bowler that there is not", func(l []api.Row) []api.Row { l[2].Bowler = 3; return l }, 2, api.ErrRange},
		{"no striker", func(l []api.Row) []api.Row { l[3].Striker = 0; return l }, 3, api.ErrRange},
		{"a striker that there is not", func(l []api.Row) []api.Row { l[3].Striker = 3; return l }, 3, api.ErrRange},
		{"no partner", func(l []api.Row) []api.Row { l[0].Partner = -1; return l }, 0, api.ErrRange},
		{"a partner that there is not", func(l []api.Row) []api.Row { l[0].Partner = 3; return l }, 0, api.ErrRange},
		{"a striker without a partner", func(l []api.Row) []api.Row { l[0].Partner = 1; return l }, 0, api.ErrRange},
		{"a bowler who bats for the other side", func(l []api.Row) []api.Row { l[2].Bowler = 1; return l }, -1, api.OK},
	} {
		rows := x.change(slices.Clone(good))
		if at, e := linear.Check(r, rows); at != x.at || e != x.e {
			t.Errorf("%s: %d, %d, want %d, %d", x.name, at, e, x.at, x.e)
		}
		if wantAt, want := check(r, rows); wantAt != x.at || want != x.e {
			t.Errorf("%s: the document says %d, %d", x.name, wantAt, want)
		}
	}
}

// An over is complete after the balls of the rules, and the last row of an over leads to the next one.
func TestCheckOfOvers(t *testing.T) {
	r := samples.Limited()
	var rows []api.Row
	add := func(over, ball int, symbol string, total int) {
		rows = append(rows, api.Row{Over: over, Ball: ball, Bowler: 1, Striker: 2, Partner: 3, Symbol: symbol, Total: total})
	}
	add(0, 0, ".", 0)
	add(0, 1, "n.", 3)
	add(0, 1, ".", 3)
	add(0, 2, "w", 5)
	add(0, 2, "b1", 6)
	add(0, 3, "w", 8)
	add(0, 3, "2", 10)
	add(1, 0, "n1", 14)
	add(1, 0, ".", 14)
	add(1, 1, ".", 14)
	if at, e := linear.Check(r, rows); at != -1 || e != api.OK {
		t.Fatalf("%d, %d", at, e)
	}
	for i := range rows {
		for _, by := range [][2]int{{1, 0}, {-1, 0}, {0, 1}, {0, -1}, {1, -r.Balls}, {-1, r.Balls}, {1, -3}, {0, 4}} {
			changed := slices.Clone(rows)
			changed[i].Over += by[0]
			changed[i].Ball += by[1]
			if at, e := linear.Check(r, changed); at != i || e != api.ErrOrder {
				t.Errorf("row %d by %v: %d, %d", i, by, at, e)
			}
		}
	}
	// There are no more rows of an over than its balls, but as many overs as the rows have.
	r.Balls = 5
	if at, e := linear.Check(r, rows); at != 7 || e != api.ErrOrder {
		t.Errorf("five balls: %d, %d", at, e)
	}
}

func TestCheckSkipsInnings(t *testing.T) {
	row := func(innings int) api.Row {
		return api.Row{Innings: innings, Bowler: 1, Striker: 2, Partner: 3, Symbol: "."}
	}
	for _, x := range []struct {
		innings []int
		at      int
	}{
		{[]int{3}, -1}, {[]int{0, 3}, -1}, {[]int{1, 2}, -1}, {[]int{0, 1, 2, 3}, -1}, {[]int{4}, 0}, {[]int{0, 4}, 1}, {[]int{1, 0}, 1}, {[]int{3, 2}, 1},
	} {
		var rows []api.Row
		for _, n := range x.innings {
			rows = append(rows, row(n))
		}
		want := api.OK
		if x.at >= 0 {
			want = api.ErrOrder
		}
		if at, e := linear.Check(samples.Long(), rows); at != x.at || e != want {
			t.Errorf("the innings %v: %d, %d, want %d", x.innings, at, e, x.at)
		}
	}
}

// The errors of a row come in the order of the document.
func TestCheckOrder(t *testing.T) {
	r, _, good := example()
	faults := []struct {
		e     api.Errno
		spoil func(x *api.Row)
	}{
		{api.ErrForm, func(x *api.Row) { x.Symbol = "x" }},
		{api.ErrArg, func(x *api.Row) { x.Symbol = "1S" }},
		{api.ErrRange, func(x *api.Row) { x.Bowler = 3 }},
		{api.ErrOrder, func(x *api.Row) { x.Ball = 3 }},
		{api.ErrSum, func(x *api.Row) { x.Total = -1 }},
	}
	for first := range faults {
		for i := range good {
			rows := slices.Clone(good)
			for later := len(faults) - 1; later >= first; later-- {
				faults[later].spoil(&rows[i])
				// Rows after the first wrong one do not matter.
				for k := i + 1; k < len(rows); k++ {
					faults[0].spoil(&rows[k])
				}
			}
			if at, e := linear.Check(r, rows); at != i || e != faults[first].e {
				t.Errorf("row %d: %d, %d, want %d", i, at, e, faults[first].e)
			}
			if at, e := linear.Check(r, append(rows, make([]api.Row, api.MaxEvents)...)); at != -1 || e != api.ErrLimit {
				t.Errorf("row %d of too many: %d, %d", i, at, e)
			}
			for want, bad := range samples.Bad() {
				for _, l := range [][]api.Row{nil, good, rows, make([]api.Row, api.MaxEvents+1)} {
					if at, e := linear.Check(bad, l); at != -1 || e != want {
						t.Errorf("%+v, %d rows: %d, %d, want %d", bad, len(l), at, e, want)
					}
				}
			}
		}
	}
}

func TestCheckLimit(t *testing.T) {
	var rows []api.Row
	for i := range api.MaxEvents + 1 {
		rows = append(rows, api.Row{Bowler: 1, Striker: 1, Partner: 2, Symbol: "w", Total: i + 1})
	}
	if at, e := linear.Check(samples.Long(), rows[:api.MaxEvents]); at != -1 || e != api.OK {
		t.Errorf("as many rows as there may be: %d, %d", at, e)
	}
	if at, e := linear.Check(samples.Long(), rows); at != -1 || e != api.ErrLimit {
		t.Errorf("one more: %d, %d", at, e)
	}
	rows[api.MaxEvents-1].Total = 0
	if at, e := linear.Check(samples.Long(), rows[:api.MaxEvents]); at != api.MaxEvents-1 || e != api.ErrSum {
		t.Errorf("the last one is wrong: %d, %d", at, e)
	}
}

// P20.3

func TestRead(t *testing.T) {
	s, met := rand.New(rand.NewSource(4)), map[api.Errno]int{}
	for range 3000 {
		var rows []api.Row
		var want []api.Delivery
		wantErr := api.OK
		for range s.Intn(20) {
			x := api.Row{Innings: -3, Total: math.MinInt, Symbol: samples.Symbols()[s.Intn(len(samples.Symbols()))]}
			if s.Intn(2) == 0 {
				spoil(s, &x)
			}
			d, e := notation.Parse(x.Symbol)
			if e != api.OK {
				wantErr = api.ErrForm
			}
			rows, want = append(rows, x), append(want, d)
		}
		if wantErr != api.OK {
			want = nil
		}
		if got, e := linear.Read(rows); e != wantErr || !slices.Equal(got, want) {
			t.Fatalf("%+v: %+v, %d", rows, got, e)
		}
		met[wantErr]++
	}
	if met[api.OK] < 300 || met[api.ErrForm] < 300 {
		t.Errorf("met: %v", met)
	}
	if got, e := linear.Read(nil); e != api.OK || len(got) != 0 {
		t.Errorf("no rows: %+v, %d", got, e)
	}
	if got, e := linear.Read([]api.Row{{Symbol: "wo1"}}); e != api.OK || len(got) != 1 || got[0] != (api.Delivery{Type: api.WideBall, Source: api.OffBat, Runs: 1}) {
		t.Errorf("a delivery that is not legal: %+v, %d", got, e)
	}
	many := slices.Repeat([]api.Row{{Symbol: "2"}}, api.MaxEvents+1)
	if got, e := linear.Read(many); e != api.OK || len(got) != api.MaxEvents+1 {
		t.Errorf("more rows than a log has: %d, %d", len(got), e)
	}
}

// P20.5

func TestWrittenRowsFollow(t *testing.T) {
	rows := 0
	forEachLog(5, func(r api.Rules, l []api.Event) {
		book := mustWrite(t, r, l)
		if at, e := linear.Check(r, book); at != -1 || e != api.OK {
			t.Fatalf("%s, %+v: Check has %d, %d", r.Name, l, at, e)
		}
		balls, e := linear.Read(book)
		if e != api.OK || !slices.Equal(balls, log.Balls(r, l)) {
			t.Fatalf("%s, %+v: Read has %+v, %d", r.Name, l, balls, e)
		}
		s, e := linear.Text(book)
		if back, bad := linear.Parse(s); e != api.OK || bad != api.OK || !slices.Equal(back, book) {
			t.Fatalf("%s, %+v: the text %q has the errors %d and %d", r.Name, l, s, e, bad)
		}
		rows += len(book)
	})
	if rows < 2000 {
		t.Errorf("only %d rows", rows)
	}
}

// Arguments stay as they are, and results are new memory.

func TestMemory(t *testing.T) {
	r := samples.Limited()
	r.Power = append(r.Power, api.Phase{From: 77})[:1]
	mark := api.Event{Kind: api.BallEvent, Side: 77}
	l := append(samples.Log("TOSS 1 BAT\nOPEN 1 2\nKEEPER 3\nBOWL 1\nBALL 1\nBALL wF\n"), mark, mark)
	marks := slices.Clone(l)
	want := []api.Row{{Bowler: 1, Striker: 1, Partner: 2, Symbol: "1", Total: 1}, {Ball: 1, Bowler: 1, Striker: 2, Partner: 1, Symbol: "wF", Total: 7}}
	for range 2 {
		rows := mustWrite(t, r, l[:6])
		if !slices.Equal(rows, want) {
			t.Fatalf("%+v", rows)
		}
		clear(rows[:cap(rows)])
	}
	power := append(samples.Limited().Power, api.Phase{From: 77})
	if !slices.Equal(l, marks) || !slices.Equal(r.Power[:2], power) {
		t.Errorf("the arguments became %+v and %+v", l, r.Power[:2])
	}

	rows := append(slices.Clone(want), api.Row{Symbol: "77"}, api.Row{Symbol: "77"})
	kept := slices.Clone(rows)
	for range 2 {
		at, e := linear.Check(r, rows[:2])
		balls, readErr := linear.Read(rows[:2])
		s, textErr := linear.Text(rows[:2])
		back, parseErr := linear.Parse(s)
		if at != -1 || e != api.OK || readErr != api.OK || textErr != api.OK || parseErr != api.OK || !slices.Equal(back, want) || balls[0].Runs != 1 {
			t.Fatalf("%d, %d, %+v, %d, %q, %d, %+v, %d", at, e, balls, readErr, s, textErr, back, parseErr)
		}
		clear(balls[:cap(balls)])
		clear(back[:cap(back)])
	}
	if !slices.Equal(rows, kept) {
		t.Errorf("the rows became %+v", rows)
	}
}
