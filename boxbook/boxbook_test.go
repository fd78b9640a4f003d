package boxbook_test

import (
	"fmt"
	"math"
	"math/rand"
	"reflect"
	"slices"
	"strconv"
	"testing"

	"scorebook/api"
	"scorebook/boxbook"
	"scorebook/delivery"
	"scorebook/dismissal"
	"scorebook/match"
	"scorebook/notation"
	"scorebook/samples"
	"scorebook/tally"
)

// forEachLog calls f with random logs of accepted events.
func forEachLog(seed int64, f func(r api.Rules, l []api.Event)) {
	s := rand.New(rand.NewSource(seed))
	for range 100 {
		for _, r := range []api.Rules{samples.Limited(), samples.Long()} {
			f(r, samples.Play(s.Intn, r, s.Intn(500)))
		}
	}
}

// mustWrite returns the books of a log.
func mustWrite(t *testing.T, r api.Rules, l []api.Event) []api.Book {
	t.Helper()
	books, e := boxbook.Write(r, l)
	if e != api.OK {
		t.Fatalf("%+v: Write has the error %d", l, e)
	}
	return books
}

// count counts the names of what holds.
func count(met map[string]int, holds map[string]bool) {
	for name, ok := range holds {
		if ok {
			met[name]++
		}
	}
}

// P21.1

// boxSymbol does what the document says of the symbol of a delivery in a box.
func boxSymbol(r api.Rules, d api.Delivery) string {
	c := delivery.Credit(r, d)
	s := map[api.Type]string{api.WideBall: "w", api.NoBall: "n"}[d.Type]
	if c.Bowler == 0 {
		s += "."
	} else {
		s += strconv.Itoa(c.Bowler)
	}
	if c.Byes > 0 {
		s += fmt.Sprintf("b%d", c.Byes)
	}
	if c.LegByes > 0 {
		s += fmt.Sprintf("l%d", c.LegByes)
	}
	if c.Wicket {
		return s + "W"
	}
	if d.How != api.NotOut {
		return s + "R"
	}
	return s
}

// stripSymbol does what the document says of the symbol of a delivery in a strip.
func stripSymbol(r api.Rules, d api.Delivery) string {
	c := delivery.Credit(r, d)
	if !c.Faced {
		return ""
	}
	if c.Batter == 0 {
		return "."
	}
	return strconv.Itoa(c.Batter)
}

// listed returns the symbols of boxes that the document lists in other words.
func listed(r api.Rules) map[string]bool {
	symbols := map[string]bool{}
	add := func(format string, from, to int, more ...any) {
		for n := from; n <= to; n++ {
			symbols[fmt.Sprintf(format, append(more, n)...)] = true
		}
	}
	symbols["."], symbols[".W"], symbols[".R"] = true, true, true
	add("%d", 1, 11)
	add(".b%d", 1, 11)
	add(".l%d", 1, 11)
	add("%dR", 1, 7)
	add(".b%dR", 1, 7)
	add(".l%dR", 1, 7)
	add("w%d", r.Wide, r.Wide+11)
	add("w%dW", r.Wide, r.Wide)
	add("w%dR", r.Wide, r.Wide+7)
	add("n%d", r.NoBall, r.NoBall+11)
	add("n%db%d", 1, 11, r.NoBall)
	add("n%dl%d", 1, 11, r.NoBall)
	add("n%dR", r.NoBall, r.NoBall+7)
	add("n%db%dR", 1, 7, r.NoBall)
	add("n%dl%dR", 1, 7, r.NoBall)
	return symbols
}

// forEachDelivery calls f with deliveries of all types, sources, runs and ways of being out, whether they are legal or not.
func forEachDelivery(f func(d api.Delivery)) {
	for t := api.Type(0); t <= api.NoBall+1; t++ {
		for source := api.NoRuns; source <= api.LegByes+1; source++ {
			for how := api.NotOut; how <= api.RetiredOut+1; how++ {
				for _, boundary := range []int{0, 4, 6, 5} {
					for runs := -1; runs <= api.MaxRun+1; runs++ {
						for short := range max(runs, 0) + 1 {
							for k := range 12 {
								f(api.Delivery{Type: t, Source: source, Runs: runs, Short: short, Boundary: boundary, Crossed: k >= 6, How: how, Victim: k % 3, Fielder: k / 3 % 2})
							}
						}
					}
				}
			}
		}
	}
}

func TestSymbols(t *testing.T) {
	fives := samples.Limited()
	fives.Wide, fives.NoBall = 5, 5
	for _, r := range []api.Rules{samples.Limited(), samples.Long(), fives} {
		boxes, strips := map[string]bool{}, map[string]bool{}
		forEachDelivery(func(d api.Delivery) {
			var box, strip string
			want := api.ErrArg
			if delivery.Legal(d) == api.Legal && dismissal.Possible(d, false) == api.Legal {
				box, strip, want = boxSymbol(r, d), stripSymbol(r, d), api.OK
				boxes[box], strips[strip] = true, true
			}
			if s, e := boxbook.BoxSymbol(r, d); s != box || e != want {
				t.Fatalf("%+v in a box: %q, %d, want %q, %d", d, s, e, box, want)
			}
			if s, e := boxbook.StripSymbol(r, d); s != strip || e != want {
				t.Fatalf("%+v in a strip: %q, %d, want %q, %d", d, s, e, strip, want)
			}
		})
		if want := listed(r); !reflect.DeepEqual(boxes, want) {
			t.Errorf("%+v: the symbols of boxes are %v, want %v", r, boxes, want)
		}
		if len(strips) != 13 {
			t.Errorf("%+v: the symbols of strips are %v", r, strips)
		}
	}
}

func TestSymbolsTell(t *testing.T) {
	r := api.Rules{Name: "ONE", Side: 2, Innings: 1, Overs: 1, Balls: 4, Wide: 1, NoBall: 1}
	for _, x := range []struct{ symbol, box, strip string }{
		{".", ".", "."}, {"1", "1", "1"}, {"2-1", "1", "1"}, {"1-1", ".", "."}, {"F", "4", "4"}, {"S", "6", "6"}, {"7F@3", "11", "11"},
		{"b2", ".b2", "."}, {"bF", ".b4", "."}, {"b7F", ".b11", "."}, {"b1-1", ".", "."}, {"l3", ".l3", "."},
		{"w", "w1", ""}, {"w2", "w3", ""}, {"w2-2", "w1", ""}, {"w7F", "w12", ""}, {"w/H1", "w1W", ""}, {"w/S1(2)", "w1W", ""}, {"w3/R2(1)", "w4R", ""}, {"w/O1", "w1R", ""},
		{"n.", "n1", "."}, {"nb2", "n1b2", "."}, {"nl7F", "n1l11", "."}, {"n1", "n2", "1"}, {"nS", "n7", "6"}, {"n./T1", "n1R", "."}, {"nb1/R1(1)", "n1b1R", "."}, {"n7/O2", "n8R", "7"},
		{"./B1", ".W", "."}, {"./C1(2s)@5", ".W", "."}, {"./L1", ".W", "."}, {"./S1(2)", ".W", "."}, {"./H1", ".W", "."}, {"./T1", ".R", "."}, {"./O2", ".R", "."},
		{"1x/R1(2,1)", "1R", "1"}, {"l2/R2(1)", ".l2R", "."}, {"b7/O1", ".b7R", "."},
	} {
		d, e := notation.Parse(x.symbol)
		box, boxErr := boxbook.BoxSymbol(r, d)
		strip, stripErr := boxbook.StripSymbol(r, d)
		if e != api.OK || boxErr != api.OK || stripErr != api.OK || box != x.box || strip != x.strip {
			t.Errorf("%s: %q, %d, %q, %d, want %q, %q", x.symbol, box, boxErr, strip, stripErr, x.box, x.strip)
		}
	}
	// A delivery that there is not, or a dismissal that is never possible.
	for _, symbol := range []string{"0", "1S", "wo1", "wb1", ".@1", "F/R1(2)", "1x", "1/B1", "./B2", "./B1(2)", "./C1", "n./B1", "w/C1(2)", "w/T1", "./M1", "./Q1", "./N1", "1/R1", "1/R1(2,2)", "./S1(2s)", "./O1(3)"} {
		d, e := notation.Parse(symbol)
		box, boxErr := boxbook.BoxSymbol(r, d)
		strip, stripErr := boxbook.StripSymbol(r, d)
		if e != api.OK || boxErr != api.ErrArg || stripErr != api.ErrArg || box != "" || strip != "" {
			t.Errorf("%s (%d): %q, %d, %q, %d", symbol, e, box, boxErr, strip, stripErr)
		}
	}
	// The error of the rules comes first.
	for want, bad := range samples.Bad() {
		for _, d := range []api.Delivery{{Type: api.Fair}, {}, {Type: api.WideBall, Runs: math.MaxInt}} {
			box, boxErr := boxbook.BoxSymbol(bad, d)
			strip, stripErr := boxbook.StripSymbol(bad, d)
			if box != "" || strip != "" || boxErr != want || stripErr != want {
				t.Errorf("%+v: %q, %d, %q, %d", bad, box, boxErr, strip, stripErr)
			}
		}
	}
}

// P21.2

// named returns the players whom an event of an innings brings in.
func named(e api.Event) []int {
	switch e.Kind {
	case api.OpenEvent:
		return []int{e.Player, e.Other}
	case api.EnterEvent:
		return []int{e.Player}
	}
	return nil
}

// stripOf does what the document says of the strip of a player, for the events and states of an innings.
func stripOf(r api.Rules, player int, l []api.Event, before []api.Innings) api.Strip {
	x := api.Strip{Player: player}
	for i, e := range l {
		in := before[i]
		switch {
		case e.Kind == api.EnterEvent && e.Yes && e.Player == player:
			x.How, x.Bowler = api.TimedOut, 0
		case e.Kind == api.RetireEvent && !e.Yes && e.Player == player:
			x.How, x.Bowler = api.RetiredOut, 0
		case e.Kind == api.BallEvent:
			if in.Striker == player && e.Ball.Type != api.WideBall {
				x.Symbols = append(x.Symbols, stripSymbol(r, e.Ball))
			}
			if e.Ball.How != api.NotOut && dismissal.Victim(e.Ball, in.Striker, in.Other) == player {
				x.How, x.Bowler = e.Ball.How, 0
				if delivery.Credited(e.Ball.How) {
					x.Bowler = in.Bowler
				}
			}
		}
	}
	return x
}

// boxesOf does what the document says of the boxes of the deliveries of an innings.
func boxesOf(r api.Rules, l []api.Event, before []api.Innings) []api.Box {
	var boxes []api.Box
	var last api.Box
	for i, e := range l {
		if e.Kind != api.BallEvent {
			continue
		}
		in := before[i]
		if last.Bowler == 0 || last.Over != in.Complete || last.Bowler != in.Bowler {
			last = api.Box{Over: in.Complete, Bowler: in.Bowler}
			boxes = append(boxes, last)
		}
		n := len(boxes) - 1
		boxes[n].Symbols = append(boxes[n].Symbols, boxSymbol(r, e.Ball))
	}
	return boxes
}

// written does what the document says of Write for an accepted log, from the states before each event.
func written(t *testing.T, r api.Rules, l []api.Event) []api.Book {
	t.Helper()
	before := make([]api.Innings, len(l))
	m, _ := match.New(r)
	for i, e := range l {
		if n := len(m.Innings); n > 0 {
			before[i] = m.Innings[n-1]
		}
		next, law := match.Step(m, e)
		if law != api.Legal {
			t.Fatalf("%+v is refused by law %d", e, law)
		}
		m = next
	}
	totals, _ := tally.Totals(r, l)
	var books []api.Book
	for k, s := range tally.Splits(l) {
		part, states := l[s[0]:s[1]], before[s[0]:s[1]]
		b := api.Book{Side: totals[k].Side, Extras: totals[k].Extras, Total: totals[k].Runs, Wickets: totals[k].Wickets, Boxes: boxesOf(r, part, states)}
		var players []int
		for _, e := range part {
			for _, p := range named(e) {
				if !slices.Contains(players, p) {
					players = append(players, p)
					b.Strips = append(b.Strips, stripOf(r, p, part, states))
				}
			}
		}
		books = append(books, b)
	}
	return books
}

func TestWrite(t *testing.T) {
	met := map[string]int{}
	forEachLog(1, func(r api.Rules, l []api.Event) {
		want := written(t, r, l)
		got, e := boxbook.Write(r, l)
		if e != api.OK || !slices.EqualFunc(got, want, boxbook.Same) {
			t.Fatalf("%s, %+v: %+v, %d, want %+v", r.Name, l, got, e, want)
		}
		for i, b := range got {
			for k, x := range b.Boxes {
				count(met, map[string]bool{"an over of several bowlers": k > 0 && b.Boxes[k-1].Over == x.Over, "many balls": len(x.Symbols) > 5})
			}
			for _, s := range b.Strips {
				met[dismissal.Name(s.How)]++
				count(met, map[string]bool{"nothing faced": len(s.Symbols) == 0, "much faced": len(s.Symbols) > 5})
			}
			count(met, map[string]bool{"the fourth innings": i == 3, "penalty runs": b.Extras.Penalties > 0, "no ball": len(b.Boxes) == 0, "side 2 twice": i > 0 && b.Side == 2 && got[i-1].Side == 2})
		}
	})
	if len(met) != 10+8 {
		t.Errorf("met: %v", met)
	}
}

func TestWriteTells(t *testing.T) {
	r, l := samples.Example()
	want := []api.Book{
		{Side: 1, Boxes: []api.Box{{Over: 0, Bowler: 1, Symbols: []string{"1", ".W"}}}, Strips: []api.Strip{{Player: 1, Symbols: []string{"1"}}, {Player: 2, Symbols: []string{"."}, How: api.Bowled, Bowler: 1}}, Total: 1, Wickets: 1},
		{Side: 2, Boxes: []api.Box{{Over: 0, Bowler: 2, Symbols: []string{"w1", "4"}}}, Strips: []api.Strip{{Player: 2, Symbols: []string{"4"}}, {Player: 1}}, Extras: api.Extras{Wides: 1}, Total: 5},
	}
	if got := mustWrite(t, r, l); !reflect.DeepEqual(got, want) {
		t.Errorf("the document's example: %+v", got)
	}
	for _, src := range []string{"", "TOSS 1 BAT\n", "TOSS 1 BAT\nSTOP\n"} {
		if got := mustWrite(t, r, samples.Log(src)); len(got) != 0 {
			t.Errorf("%q: %+v", src, got)
		}
	}
	r = samples.Long()
	for _, x := range []struct {
		src  string
		want api.Book
	}{
		{"TOSS 1 BAT\nOPEN 4 2\n", api.Book{Side: 1, Strips: []api.Strip{{Player: 4}, {Player: 2}}}},
		// A bowler is replaced within an over; the same one goes on after another event.
		{"TOSS 2 BAT\nOPEN 1 2\nKEEPER 4\nBOWL 1\nBALL .\nBALL n1\nFIELD 0\nBALL .\nBOWL 2\nBALL w\nBALL .\nBALL .\nBALL .\nBOWL 3\nBALL l1\n", api.Book{Side: 2,
			Boxes:  []api.Box{{Over: 0, Bowler: 1, Symbols: []string{".", "n5", "."}}, {Over: 0, Bowler: 2, Symbols: []string{"w1", ".", ".", "."}}, {Over: 1, Bowler: 3, Symbols: []string{".l1"}}},
			Strips: []api.Strip{{Player: 1, Symbols: []string{".", "1", "."}}, {Player: 2, Symbols: []string{".", ".", ".", "."}}}, Extras: api.Extras{Wides: 1, NoBalls: 4, LegByes: 1}, Total: 7}},
		// One player is timed out, one retires, hurt and then out, and the last one stays.
		{"TOSS 1 BAT\nOPEN 1 2\nKEEPER 4\nBOWL 1\nBALL .\nRETIRE 1 HURT\nTIMEOUT 3\nENTER 4\nBALL 1\nRETIRE 4 OUT\nENTER 1\nRETIRE 1 OUT\n", api.Book{Side: 1,
			Boxes:  []api.Box{{Over: 0, Bowler: 1, Symbols: []string{".", "1"}}},
			Strips: []api.Strip{{Player: 1, Symbols: []string{"."}, How: api.RetiredOut}, {Player: 2}, {Player: 3, How: api.TimedOut}, {Player: 4, Symbols: []string{"1"}, How: api.RetiredOut}}, Total: 1, Wickets: 3}},
		// A batter who retired hurt is timed out when the next place is vacant.
		{"TOSS 1 BAT\nOPEN 1 2\nKEEPER 4\nBOWL 1\nRETIRE 2 HURT\nENTER 3\nBALL 1x/R2(4)\nTIMEOUT 2\nENTER 4\nBALL w/S1(4)\n", api.Book{Side: 1,
			Boxes:  []api.Box{{Over: 0, Bowler: 1, Symbols: []string{"1R", "w1W"}}},
			Strips: []api.Strip{{Player: 1, Symbols: []string{"1"}, How: api.Stumped, Bowler: 1}, {Player: 2, How: api.TimedOut}, {Player: 3, How: api.RunOut}, {Player: 4}}, Extras: api.Extras{Wides: 1}, Total: 2, Wickets: 3}},
		// The bowler gets no wicket for a ball that is hit twice.
		{"TOSS 1 BAT\nOPEN 1 2\nKEEPER 4\nBOWL 3\nBALL n./T1\n", api.Book{Side: 1,
			Boxes:  []api.Box{{Over: 0, Bowler: 3, Symbols: []string{"n4R"}}},
			Strips: []api.Strip{{Player: 1, Symbols: []string{"."}, How: api.HitTwice}, {Player: 2}}, Extras: api.Extras{NoBalls: 4}, Total: 4, Wickets: 1}},
	} {
		l := samples.Log(x.src)
		if got := mustWrite(t, r, l); len(got) != 1 || !boxbook.Same(got[0], x.want) {
			t.Errorf("%q: %+v, want %+v", x.src, got, x.want)
		}
		if want := written(t, r, l); len(want) != 1 || !boxbook.Same(want[0], x.want) {
			t.Errorf("%q: the document says %+v, want %+v", x.src, want, x.want)
		}
	}
}

func TestWriteErrors(t *testing.T) {
	for _, x := range []struct {
		l []api.Event
		e api.Errno
	}{
		{samples.Log("OPEN 1 2\n"), api.ErrLaw},
		{samples.Log("TOSS 1 BAT\nOPEN 1 2\nKEEPER 2\nBOWL 1\nBALL .\nBALL ./B2\n"), api.ErrLaw},
		{make([]api.Event, api.MaxEvents), api.ErrLaw},
		{make([]api.Event, api.MaxEvents+1), api.ErrLimit},
		{samples.Wides(api.MaxEvents + 1), api.ErrLimit},
	} {
		if books, e := boxbook.Write(samples.Long(), x.l); e != x.e || len(books) != 0 {
			t.Errorf("%d events: %d books, %d, want %d", len(x.l), len(books), e, x.e)
		}
		for want, r := range samples.Bad() {
			if books, e := boxbook.Write(r, x.l); e != want || len(books) != 0 {
				t.Errorf("%+v, %d events: %d books, %d", r, len(x.l), len(books), e)
			}
		}
	}
	books := mustWrite(t, samples.Long(), samples.Wides(api.MaxEvents))
	if n := api.MaxEvents - 4; len(books) != 1 || len(books[0].Boxes) != 1 || len(books[0].Boxes[0].Symbols) != n || books[0].Total != n {
		t.Errorf("as many events as there may be: %+v", books)
	}
	if e := boxbook.Check(samples.Long(), books[0]); e != api.OK {
		t.Errorf("as many events as there may be: Check has %d", e)
	}
}

// P21.5

// full returns a book in which no field is zero and each list has spare capacity with a mark in it.
func full() api.Book {
	return api.Book{
		Side:    1,
		Boxes:   append([]api.Box{{Over: 2, Bowler: 3, Symbols: []string{"a", "b", "MARK"}[:2]}, {Over: 4, Bowler: 5, Symbols: []string{"c", "MARK"}[:1]}}, api.Box{Over: 77})[:2],
		Strips:  append([]api.Strip{{Player: 6, Symbols: []string{"d", "e", "MARK"}[:2], How: api.Bowled, Bowler: 7}, {Player: 8, Symbols: []string{"f", "MARK"}[:1], How: api.RunOut, Bowler: 9}}, api.Strip{Player: 77})[:2],
		Extras:  api.Extras{Wides: 10, NoBalls: 11, Byes: 12, LegByes: 13, Penalties: 14},
		Total:   15,
		Wickets: 16,
	}
}

// forEachPart calls f with each number, string and list of a value.
func forEachPart(v reflect.Value, f func(part reflect.Value)) {
	switch v.Kind() {
	case reflect.Struct:
		for i := range v.NumField() {
			forEachPart(v.Field(i), f)
		}
	case reflect.Slice:
		for i := range v.Len() {
			forEachPart(v.Index(i), f)
		}
		f(v)
	default:
		f(v)
	}
}

func TestSame(t *testing.T) {
	b := full()
	if !boxbook.Same(b, full()) || !boxbook.Same(api.Book{}, api.Book{}) || boxbook.Same(b, api.Book{}) || boxbook.Same(api.Book{}, b) {
		t.Error("equal books are not the same, or others are")
	}
	parts := 0
	forEachPart(reflect.ValueOf(&b).Elem(), func(part reflect.Value) {
		was := reflect.ValueOf(part.Interface())
		switch part.Kind() {
		case reflect.String:
			part.SetString("other")
		case reflect.Int:
			part.SetInt(part.Int() + 1)
		case reflect.Uint8:
			part.SetUint(part.Uint() + 1)
		case reflect.Slice:
			part.SetLen(part.Len() - 1)
		default:
			t.Fatalf("a part of kind %v", part.Kind())
		}
		if boxbook.Same(b, full()) || boxbook.Same(full(), b) {
			t.Errorf("the same: %+v", b)
		}
		part.Set(was)
		parts++
	})
	if parts != 8+(2*2+3+2)+(2*3+3+2)+2 || !boxbook.Same(b, full()) {
		t.Errorf("%d parts", parts)
	}
	// Nil and empty lists are equal.
	none := api.Book{Side: 1, Boxes: []api.Box{{}}, Strips: []api.Strip{{}}}
	empty := api.Book{Side: 1, Boxes: []api.Box{{Symbols: []string{}}}, Strips: []api.Strip{{Symbols: []string{}}}}
	if !boxbook.Same(none, empty) || !boxbook.Same(empty, none) || !boxbook.Same(api.Book{Boxes: []api.Box{}, Strips: []api.Strip{}}, api.Book{}) {
		t.Error("nil and empty lists are not the same")
	}
}

func TestCheckAcceptsWhatIsWritten(t *testing.T) {
	books, balls := 0, 0
	forEachLog(2, func(r api.Rules, l []api.Event) {
		for i, b := range mustWrite(t, r, l) {
			if e := boxbook.Check(r, b); e != api.OK {
				t.Fatalf("%s, %+v: the book %d, %+v, has the error %d", r.Name, l, i, b, e)
			}
			s, e := boxbook.Text(b)
			if back, bad := boxbook.Parse(s); e != api.OK || bad != api.OK || !boxbook.Same(back, b) {
				t.Fatalf("%s, %+v: the text %q has the errors %d and %d", r.Name, l, s, e, bad)
			}
			for _, x := range b.Boxes {
				balls += len(x.Symbols)
			}
			books++
		}
	})
	if books < 300 || balls < 2000 {
		t.Errorf("only %d books with %d balls", books, balls)
	}
}

// Arguments stay as they are, and results are new memory.

// overwrite stores another value in each element of each list of books, those beyond its length included.
func overwrite(books []api.Book) {
	for _, b := range books[:cap(books)] {
		for _, x := range b.Boxes[:cap(b.Boxes)] {
			clear(x.Symbols[:cap(x.Symbols)])
		}
		for _, x := range b.Strips[:cap(b.Strips)] {
			clear(x.Symbols[:cap(x.Symbols)])
		}
		clear(b.Boxes[:cap(b.Boxes)])
		clear(b.Strips[:cap(b.Strips)])
	}
	clear(books[:cap(books)])
}

func TestMemory(t *testing.T) {
	r := samples.Limited()
	r.Power = append(r.Power, api.Phase{From: 77})[:1]
	mark := api.Event{Kind: api.BallEvent, Side: 77}
	l := append(samples.Log("TOSS 1 BAT\nOPEN 1 2\nKEEPER 3\nBOWL 1\nBALL 1\nBALL wF\n"), mark, mark)
	marks := slices.Clone(l)
	want := []api.Book{{Side: 1, Boxes: []api.Box{{Bowler: 1, Symbols: []string{"1", "w6"}}}, Strips: []api.Strip{{Player: 1, Symbols: []string{"1"}}, {Player: 2}}, Extras: api.Extras{Wides: 6}, Total: 7}}
	for range 2 {
		books := mustWrite(t, r, l[:6])
		if !slices.EqualFunc(books, want, boxbook.Same) {
			t.Fatalf("%+v", books)
		}
		for i, x := range books[0].Boxes {
			// No two lists of one result share memory.
			clear(x.Symbols[:cap(x.Symbols)])
			if !slices.Equal(books[0].Strips[i].Symbols, want[0].Strips[i].Symbols) {
				t.Errorf("the strips became %+v", books[0].Strips)
			}
		}
		overwrite(books)
	}
	power := append(samples.Limited().Power, api.Phase{From: 77})
	if !slices.Equal(l, marks) || !slices.Equal(r.Power[:2], power) {
		t.Errorf("the arguments became %+v and %+v", l, r.Power[:2])
	}

	b := want[0]
	b.Boxes = append(b.Boxes, api.Box{Over: 77})[:1]
	b.Boxes[0].Symbols = append(b.Boxes[0].Symbols, "MARK")[:2]
	b.Strips = append(b.Strips, api.Strip{Player: 77})[:2]
	b.Strips[0].Symbols = append(b.Strips[0].Symbols, "MARK")[:1]
	text := "BOOK 1 7 0 6 0 0 0 0\nBOX 0 1 1 w6\nSTRIP 1 NOTOUT 0 1\nSTRIP 2 NOTOUT 0\n"
	for range 2 {
		bowlers, e := boxbook.Bowlers(r, b)
		batters, f := boxbook.Batters(r, b)
		s, g := boxbook.Text(b)
		back, h := boxbook.Parse(text)
		if e != api.OK || f != api.OK || g != api.OK || h != api.OK || s != text || !boxbook.Same(back, b) || bowlers[0].Runs != 7 || batters[0].Runs != 1 {
			t.Fatalf("%+v, %d, %+v, %d, %q, %d, %+v, %d", bowlers, e, batters, f, s, g, back, h)
		}
		clear(bowlers[:cap(bowlers)])
		clear(batters[:cap(batters)])
		overwrite([]api.Book{back})
	}
	if b.Boxes[:2][1].Over != 77 || b.Boxes[0].Symbols[:3][2] != "MARK" || b.Strips[:3][2].Player != 77 || b.Strips[0].Symbols[:2][1] != "MARK" {
		t.Errorf("the book became %+v", b)
	}
}
