package notation_test

import (
	"math/rand"
	"regexp"
	"slices"
	"strconv"
	"strings"
	"testing"

	"scorebook/api"
	"scorebook/notation"
)

// lefts returns all deliveries without a wicket, fielders and a sector.
func lefts() []api.Delivery {
	var l []api.Delivery
	for kind := api.Fair; kind <= api.NoBall; kind++ {
		for source := api.NoRuns; source <= api.LegByes; source++ {
			for runs := 0; runs <= api.MaxRun; runs++ {
				for short := 0; short <= runs; short++ {
					for _, boundary := range []int{0, 4, 6} {
						for _, crossed := range []bool{false, true} {
							l = append(l, api.Delivery{Type: kind, Source: source, Runs: runs, Short: short, Boundary: boundary, Crossed: crossed})
						}
					}
				}
			}
		}
	}
	return l
}

// rights returns a delivery with all wickets and fielders.
func rights(d api.Delivery) []api.Delivery {
	var l []api.Delivery
	for how := api.NotOut; how <= api.RetiredOut; how++ {
		for victim := 0; victim <= 2; victim++ {
			for fielder := 0; fielder <= api.MaxSide; fielder++ {
				for second := 0; second <= api.MaxSide; second++ {
					for _, sub := range []bool{false, true} {
						d.How, d.Victim, d.Fielder, d.Second, d.Sub = how, victim, fielder, second, sub
						l = append(l, d)
					}
				}
			}
		}
	}
	return l
}

// sectors returns deliveries with all sectors.
func sectors(l []api.Delivery) []api.Delivery {
	var all []api.Delivery
	for _, d := range l {
		for sector := range 9 {
			d.Sector = sector
			all = append(all, d)
		}
	}
	return all
}

// deliveries returns deliveries that have each part, in many ways.
func deliveries() []api.Delivery {
	l := slices.Concat(sectors(lefts()), sectors(rights(api.Delivery{Type: api.Fair, Source: api.OffBat})))
	for _, d := range []api.Delivery{{Type: api.Fair}, {Type: api.WideBall, Boundary: 4}, {Type: api.NoBall, Source: api.LegByes, Runs: 3, Short: 2, Boundary: 6, Crossed: true, Sector: 5}} {
		l = append(l, rights(d)...)
	}
	return l
}

// randomDelivery returns any delivery that has a symbol.
func randomDelivery(r *rand.Rand) api.Delivery {
	d := api.Delivery{Type: api.Fair + api.Type(r.Intn(3)), Source: api.Source(r.Intn(4)), Runs: r.Intn(8)}
	d.Short, d.Crossed = r.Intn(d.Runs+1), r.Intn(2) == 0
	d.Boundary = []int{0, 4, 6}[r.Intn(3)]
	if r.Intn(2) == 0 {
		d.How, d.Victim = api.How(r.Intn(11)), r.Intn(3)
		d.Fielder, d.Second, d.Sub = r.Intn(12), r.Intn(12)*r.Intn(2), r.Intn(2) == 0
	}
	d.Sector = r.Intn(9)
	return d
}

// symbol writes a delivery as the document says, part by part.
func symbol(d api.Delivery) string {
	kind := map[api.Type]string{api.WideBall: "w", api.NoBall: "n"}[d.Type]
	source := map[api.Source]string{api.NoRuns: ".", api.Byes: "b", api.LegByes: "l"}[d.Source]
	if d.Type == api.WideBall {
		source = map[api.Source]string{api.OffBat: "o", api.Byes: "b", api.LegByes: "l"}[d.Source]
	}
	s := kind + source
	if d.Runs > 0 || source == "" && d.Boundary == 0 && d.Type != api.WideBall {
		s += strconv.Itoa(d.Runs)
	}
	s += map[int]string{4: "F", 6: "S"}[d.Boundary]
	if d.Short > 0 {
		s += "-" + strconv.Itoa(d.Short)
	}
	if d.Crossed {
		s += "x"
	}
	fielders := d.Fielder != 0 || d.Second != 0 || d.Sub
	if d.How != api.NotOut || d.Victim != 0 || fielders {
		s += "/" + map[api.How]string{api.NotOut: "N", api.Bowled: "B", api.Caught: "C", api.LegBefore: "L", api.Stumped: "S", api.HitWicket: "H", api.RunOut: "R",
			api.HitTwice: "T", api.Obstructing: "O", api.TimedOut: "M", api.RetiredOut: "Q"}[d.How] + strconv.Itoa(d.Victim)
	}
	if fielders {
		s += "(" + strconv.Itoa(d.Fielder)
		if d.Second != 0 {
			s += "," + strconv.Itoa(d.Second)
		}
		if d.Sub {
			s += "s"
		}
		s += ")"
	}
	if d.Sector > 0 {
		s += "@" + strconv.Itoa(d.Sector)
	}
	return s
}

// shape matches symbols, and texts that have more runs short than run.
var shape = regexp.MustCompile(`^(?:(?:w[obl]?|n?[.bl])([1-7])?[FS]?|n?([0-7])|n?([1-7])?[FS])(?:-([1-7]))?x?` +
	`(?:/[BCLSHRTOMQ][012]|/N[12]|/[NBCLSHRTOMQ][012]\((?:(?:[1-9]|1[01])(?:,(?:[1-9]|1[01]))?s?|0,(?:[1-9]|1[01])s?|0s)\))?(?:@[1-8])?$`)

// isSymbol reports whether s is a symbol, without the package.
func isSymbol(s string) bool {
	m := shape.FindStringSubmatch(s)
	return m != nil && (m[4] == "" || m[4] <= max(m[1], m[2], m[3]))
}

func checkParse(t *testing.T, s string, want api.Delivery) {
	t.Helper()
	if d, e := notation.Parse(s); d != want || e != api.OK {
		t.Errorf("Parse(%q) = %+v, %v; want %+v", s, d, e, want)
	}
}

func checkRefused(t *testing.T, s string) {
	t.Helper()
	if d, e := notation.Parse(s); d != (api.Delivery{}) || e != api.ErrForm {
		t.Errorf("Parse(%q) = %+v, %v; want ErrForm", s, d, e)
	}
}

// P7.2

func TestPrint(t *testing.T) {
	for want, d := range map[string]api.Delivery{
		".":                    {Type: api.Fair},
		".2":                   {Type: api.Fair, Runs: 2},
		".F":                   {Type: api.Fair, Boundary: 4},
		"0":                    {Type: api.Fair, Source: api.OffBat},
		"0x":                   {Type: api.Fair, Source: api.OffBat, Crossed: true},
		"0/C1(5)":              {Type: api.Fair, Source: api.OffBat, How: api.Caught, Victim: 1, Fielder: 5},
		"7":                    {Type: api.Fair, Source: api.OffBat, Runs: 7},
		"F":                    {Type: api.Fair, Source: api.OffBat, Boundary: 4},
		"S":                    {Type: api.Fair, Source: api.OffBat, Boundary: 6},
		"3S-3":                 {Type: api.Fair, Source: api.OffBat, Runs: 3, Short: 3, Boundary: 6},
		"b":                    {Type: api.Fair, Source: api.Byes},
		"bF":                   {Type: api.Fair, Source: api.Byes, Boundary: 4},
		"l2-1":                 {Type: api.Fair, Source: api.LegByes, Runs: 2, Short: 1},
		"w":                    {Type: api.WideBall},
		"wx":                   {Type: api.WideBall, Crossed: true},
		"w1":                   {Type: api.WideBall, Runs: 1},
		"wS":                   {Type: api.WideBall, Boundary: 6},
		"wo":                   {Type: api.WideBall, Source: api.OffBat},
		"wo1":                  {Type: api.WideBall, Source: api.OffBat, Runs: 1},
		"wb":                   {Type: api.WideBall, Source: api.Byes},
		"wl4F":                 {Type: api.WideBall, Source: api.LegByes, Runs: 4, Boundary: 4},
		"n.":                   {Type: api.NoBall},
		"n0":                   {Type: api.NoBall, Source: api.OffBat},
		"nS":                   {Type: api.NoBall, Source: api.OffBat, Boundary: 6},
		"nl":                   {Type: api.NoBall, Source: api.LegByes},
		"0/N1":                 {Type: api.Fair, Source: api.OffBat, Victim: 1},
		"0/B0":                 {Type: api.Fair, Source: api.OffBat, How: api.Bowled},
		"0/N0(0s)":             {Type: api.Fair, Source: api.OffBat, Sub: true},
		"0/N0(0,9)":            {Type: api.Fair, Source: api.OffBat, Second: 9},
		"0/N0(10)":             {Type: api.Fair, Source: api.OffBat, Fielder: 10},
		"0@8":                  {Type: api.Fair, Source: api.OffBat, Sector: 8},
		"nb7F-7x/Q2(11,10s)@1": {Type: api.NoBall, Source: api.Byes, Runs: 7, Short: 7, Boundary: 4, Crossed: true, How: api.RetiredOut, Victim: 2, Fielder: 11, Second: 10, Sub: true, Sector: 1},
		"wo6S-1x/T1(1,11)@7":   {Type: api.WideBall, Source: api.OffBat, Runs: 6, Short: 1, Boundary: 6, Crossed: true, How: api.HitTwice, Victim: 1, Fielder: 1, Second: 11, Sector: 7},
		"1x/R2(4,7s)":          {Type: api.Fair, Source: api.OffBat, Runs: 1, Crossed: true, How: api.RunOut, Victim: 2, Fielder: 4, Second: 7, Sub: true},
		"./L1":                 {Type: api.Fair, How: api.LegBefore, Victim: 1},
		"w/S1(3)":              {Type: api.WideBall, How: api.Stumped, Victim: 1, Fielder: 3},
		"./H1":                 {Type: api.Fair, How: api.HitWicket, Victim: 1},
		"n1/O2":                {Type: api.NoBall, Source: api.OffBat, Runs: 1, How: api.Obstructing, Victim: 2},
		"./M0":                 {Type: api.Fair, How: api.TimedOut},
	} {
		if s, e := notation.Print(d); s != want || e != api.OK {
			t.Errorf("Print(%+v) = %q, %v; want %q", d, s, e, want)
		}
		checkParse(t, want, d)
	}
}

func TestPrintIsComplete(t *testing.T) {
	for _, d := range deliveries() {
		want := symbol(d)
		if s, e := notation.Print(d); s != want || e != api.OK {
			t.Fatalf("Print(%+v) = %q, %v; want %q", d, s, e, want)
		}
	}
}

func TestPrintRefuses(t *testing.T) {
	for _, c := range slices.Concat(wrongTypes(), wrongNumbers()) {
		d := changed(c)
		if s, e := notation.Print(d); s != "" || e != notation.Check(d) || e == api.OK {
			t.Errorf("Print(%+v) = %q, %v", d, s, e)
		}
	}
}

// P7.3

func TestSymbolsAreReadBack(t *testing.T) {
	of := map[string]api.Delivery{}
	for _, d := range deliveries() {
		s, _ := notation.Print(d)
		if other, ok := of[s]; ok && other != d {
			t.Fatalf("%q is the symbol of %+v and of %+v", s, d, other)
		}
		of[s] = d
		if back, e := notation.Parse(s); back != d || e != api.OK {
			t.Fatalf("Parse(%q) = %+v, %v; want %+v", s, back, e, d)
		}
	}
	r := rand.New(rand.NewSource(73))
	for range 20000 {
		d := randomDelivery(r)
		checkParse(t, symbol(d), d)
	}
}

func TestParseRefuses(t *testing.T) {
	for _, s := range []string{
		"", " ", " .", ". ", "1\n", "8", "9", "-", "-1", "00", "01", "12", "1-", "1-0", "1-2", "0-1", "-0", "2--1", "1-01",
		"w0", "w.", "w.1", "n", "nn1", "ww", "nw", "W", "N1", ".0", "b0", "l0", "o", "o1", "no", "no1", "bl", "..", ".b", "1b", "1.",
		"0F", "0S", "F4", "FF", "FS", "SF", "f", "4F4", "F1", "x", "x1", "1xx", "1x-1", "X", "1X", "1-1F",
		"/B1", "1/", "1/1", "1/B", "1/BB", "1/B3", "1/B9", "1/B01", "1/B11", "1/b1", "1/N", "1/N0", "1/A1", "1//B1", "1/B1/B1", "1/B1x", "w/",
		"1/B1(", "1/B1()", "1/B1)", "1/B1(0)", "1/B1(00)", "1/B1(01)", "1/B1(12)", "1/B1(110)", "1/B1(5", "1/B15)", "1/B1(5))", "1/B1(-5)", "1/B1(s)",
		"1/B1(,5)", "1/B1(5,)", "1/B1(5,0)", "1/B1(0,0s)", "1/B1(5,05)", "1/B1(5,12)", "1/B1(5,5,5)", "1/B1(5 ,5)", "1/B1(5s,5)", "1/B1(5ss)", "1/B1(5S)", "1/B1(5)(5)", "1(5)",
		"1@", "1@0", "1@9", "1@11", "1@01", "1@1@1", "@1", "1@1x", "1@1/B1", "1@-1", "1@s", "é", "1\x00", "\xff",
		strings.Repeat("0", 100_000), "1/B1(" + strings.Repeat("0", 100_000) + "5)", "1/B1(" + strings.Repeat("9", 100_000) + ")",
	} {
		checkRefused(t, s)
	}
}

func TestParseAcceptsSymbolsAlone(t *testing.T) {
	check := func(s string) {
		d, e := notation.Parse(s)
		if !isSymbol(s) {
			checkRefused(t, s)
		} else if e != api.OK || symbol(d) != s {
			t.Errorf("Parse(%q) = %+v, %v", s, d, e)
		}
	}
	signs := "0127wnob.lFS-x/NB(,s)@ "
	short := []string{""}
	for range 3 {
		for _, s := range slices.Clone(short) {
			for i := range len(signs) {
				short = append(short, s+signs[i:i+1])
			}
		}
	}
	for _, s := range short {
		check(s)
	}
	r := rand.New(rand.NewSource(74))
	for range 100_000 {
		b := []byte(symbol(randomDelivery(r)))
		i := r.Intn(len(b))
		sign := signs[r.Intn(len(signs))]
		switch r.Intn(4) {
		case 0:
			b[i] = sign
		case 1:
			b = slices.Insert(b, i, sign)
		case 2:
			b = slices.Delete(b, i, i+1)
		case 3:
			b[i] = byte(r.Intn(256))
		}
		check(string(b))
	}
}

// P7.4

func TestOver(t *testing.T) {
	for want, l := range map[string][]api.Delivery{
		"":        {},
		".":       {{Type: api.Fair}},
		". w 0":   {{Type: api.Fair}, {Type: api.WideBall}, {Type: api.Fair, Source: api.OffBat}},
		"1 1":     {{Type: api.Fair, Source: api.OffBat, Runs: 1}, {Type: api.Fair, Source: api.OffBat, Runs: 1}},
		"./B1 F@": nil,
	} {
		got, e := notation.ParseOver(want)
		if l == nil {
			if len(got) != 0 || e != api.ErrForm {
				t.Errorf("ParseOver(%q) = %v, %v", want, got, e)
			}
			continue
		}
		if !slices.Equal(got, l) || e != api.OK {
			t.Errorf("ParseOver(%q) = %v, %v; want %v", want, got, e, l)
		}
		if s, e := notation.Over(l); s != want || e != api.OK {
			t.Errorf("Over(%v) = %q, %v; want %q", l, s, e, want)
		}
	}
	if s, e := notation.Over(nil); s != "" || e != api.OK {
		t.Errorf("Over(nil) = %q, %v", s, e)
	}
}

func TestOverHasFirstError(t *testing.T) {
	fair, noType, noRuns := api.Delivery{Type: api.Fair}, api.Delivery{}, api.Delivery{Type: api.Fair, Runs: 8}
	for _, x := range []struct {
		l    []api.Delivery
		want api.Errno
	}{
		{[]api.Delivery{noType}, api.ErrType},
		{[]api.Delivery{fair, fair, noRuns}, api.ErrRange},
		{[]api.Delivery{fair, noRuns, noType}, api.ErrRange},
		{[]api.Delivery{noType, noRuns, fair}, api.ErrType},
	} {
		if s, e := notation.Over(x.l); s != "" || e != x.want {
			t.Errorf("Over(%v) = %q, %v; want %v", x.l, s, e, x.want)
		}
	}
}

func TestOversAreReadBack(t *testing.T) {
	r := rand.New(rand.NewSource(75))
	for n := range 200 {
		l := make([]api.Delivery, n)
		for i := range l {
			l[i] = randomDelivery(r)
		}
		kept := slices.Clone(l)
		s, e := notation.Over(l)
		back, bad := notation.ParseOver(s)
		if e != api.OK || bad != api.OK || !slices.Equal(back, l) {
			t.Fatalf("%v: %q %v, %v %v", l, s, e, back, bad)
		}
		if !slices.Equal(l, kept) {
			t.Fatal("Over changes its argument")
		}
	}
}

func TestParseOverRefuses(t *testing.T) {
	for _, s := range []string{" ", "  ", " .", ". ", ".  .", ".\t.", ".\n", ". z", "z .", ". 8", ". 1 .0", ".,.", ".."} {
		if l, e := notation.ParseOver(s); len(l) != 0 || e != api.ErrForm {
			t.Errorf("ParseOver(%q) = %v, %v; want ErrForm", s, l, e)
		}
	}
}
