package boxbook_test

import (
	"math"
	"math/rand"
	"regexp"
	"slices"
	"strconv"
	"strings"
	"testing"

	"scorebook/api"
	"scorebook/boxbook"
	"scorebook/delivery"
	"scorebook/rules"
	"scorebook/samples"
	"scorebook/tally"
)

// clone returns a copy of a book that shares no memory.
func clone(b api.Book) api.Book {
	b.Boxes, b.Strips = slices.Clone(b.Boxes), slices.Clone(b.Strips)
	for i := range b.Boxes {
		b.Boxes[i].Symbols = slices.Clone(b.Boxes[i].Symbols)
	}
	for i := range b.Strips {
		b.Strips[i].Symbols = slices.Clone(b.Strips[i].Symbols)
	}
	return b
}

// P21.3

// parts are the parts of a symbol of a box.
type parts struct {
	wide, noBall          bool
	charge, byes, legByes int
	last                  byte // W, R or 0
}

var symbolForm = regexp.MustCompile(`^([wn]?)(\.|[0-9]+)(?:b([0-9]+))?(?:l([0-9]+))?([WR]?)$`)

// split returns the parts of a symbol of a box.
func split(s string) parts {
	m := symbolForm.FindStringSubmatch(s)
	number := func(s string) int {
		n, _ := strconv.Atoi(s)
		return n
	}
	p := parts{wide: m[1] == "w", noBall: m[1] == "n", charge: number(m[2]), byes: number(m[3]), legByes: number(m[4])}
	if m[5] != "" {
		p.last = m[5][0]
	}
	return p
}

// legal returns how many symbols begin with neither w nor n.
func legal(symbols []string) int {
	n := 0
	for _, s := range symbols {
		if !strings.HasPrefix(s, "w") && !strings.HasPrefix(s, "n") {
			n++
		}
	}
	return n
}

// isStripSymbol reports whether a string is a full stop or a decimal from 1 to 11.
func isStripSymbol(s string) bool {
	return slices.Contains([]string{".", "1", "2", "3", "4", "5", "6", "7", "8", "9", "10", "11"}, s)
}

// checkParts does what the document says of the first two steps of Check, and of the third.
func checkParts(r api.Rules, b api.Book) api.Errno {
	symbols := listed(r)
	inBoxes, inStrips := 0, 0
	for _, x := range b.Boxes {
		inBoxes += len(x.Symbols)
	}
	for _, x := range b.Strips {
		inStrips += len(x.Symbols)
	}
	for _, n := range []int{b.Total, b.Wickets, b.Extras.Wides, b.Extras.NoBalls, b.Extras.Byes, b.Extras.LegByes, b.Extras.Penalties} {
		if n < 0 || n > 1_000_000 {
			return api.ErrRange
		}
	}
	if b.Side < 1 || b.Side > 2 {
		return api.ErrRange
	}
	if len(b.Boxes) > 4000 || len(b.Strips) > 4000 || inBoxes > 4000 || inStrips > 4000 {
		return api.ErrLimit
	}
	for i, x := range b.Boxes {
		if x.Bowler < 1 || x.Bowler > r.Side {
			return api.ErrRange
		}
		if len(x.Symbols) == 0 || slices.ContainsFunc(x.Symbols, func(s string) bool { return !symbols[s] }) {
			return api.ErrForm
		}
		// The balls of the over of a box, up to the box.
		balls := func(at int) int {
			n := 0
			for _, y := range b.Boxes[:at+1] {
				if y.Over == b.Boxes[at].Over {
					n += legal(y.Symbols)
				}
			}
			return n
		}
		switch {
		case i == 0:
			if x.Over != 0 {
				return api.ErrOrder
			}
		case balls(i-1) == r.Balls:
			if x.Over != b.Boxes[i-1].Over+1 {
				return api.ErrOrder
			}
		case x.Over != b.Boxes[i-1].Over || x.Bowler == b.Boxes[i-1].Bowler:
			return api.ErrOrder
		}
		if balls(i) > r.Balls {
			return api.ErrLimit
		}
	}
	for i, x := range b.Strips {
		if x.Player < 1 || x.Player > r.Side {
			return api.ErrRange
		}
		for _, y := range b.Strips[:i] {
			if y.Player == x.Player {
				return api.ErrExists
			}
		}
		for _, s := range x.Symbols {
			if !isStripSymbol(s) {
				return api.ErrForm
			}
		}
		if x.How > api.RetiredOut {
			return api.ErrType
		}
		if delivery.Credited(x.How) && (x.Bowler < 1 || x.Bowler > r.Side) || !delivery.Credited(x.How) && x.Bowler != 0 {
			return api.ErrArg
		}
	}
	return api.OK
}

// sumsAgree does what the document says of the fourth step of Check.
func sumsAgree(r api.Rules, b api.Book) bool {
	balls, charges, wides, noBalls, byes, legByes, outs := 0, 0, 0, 0, 0, 0, 0
	gets := map[int]int{}
	for _, x := range b.Boxes {
		for _, s := range x.Symbols {
			p := split(s)
			charges += p.charge
			byes += p.byes
			legByes += p.legByes
			if p.wide {
				wides += p.charge
			} else {
				balls++
			}
			if p.noBall {
				noBalls++
			}
			if p.last == 'W' {
				gets[x.Bowler]++
			}
			if p.last == 'R' {
				outs++
			}
		}
	}
	inStrips, runs, wickets := 0, 0, 0
	for _, x := range b.Strips {
		for _, s := range x.Symbols {
			n, _ := strconv.Atoi(s)
			inStrips++
			runs += n
		}
		if x.How != api.NotOut {
			wickets++
		}
		if x.Bowler != 0 {
			gets[x.Bowler]--
		}
		if x.How == api.RunOut || x.How == api.HitTwice || x.How == api.Obstructing {
			outs--
		}
	}
	for _, n := range gets {
		if n != 0 {
			return false
		}
	}
	e := b.Extras
	return inStrips == balls && runs == charges-e.Wides-e.NoBalls && e.Wides == wides && e.NoBalls == r.NoBall*noBalls &&
		e.Byes == byes && e.LegByes == legByes && e.Penalties%5 == 0 && b.Total == charges+byes+legByes+e.Penalties && b.Wickets == wickets && outs == 0
}

// check does what the document says of Check.
func check(r api.Rules, b api.Book) api.Errno {
	if e := rules.Check(r); e != api.OK {
		return e
	}
	if e := checkParts(r, b); e != api.OK {
		return e
	}
	if !sumsAgree(r, b) {
		return api.ErrSum
	}
	return api.OK
}

// pick returns an element of a list.
func pick[T any](s *rand.Rand, l []T) T { return l[s.Intn(len(l))] }

// oddNumber returns a number near n, or one that seldom fits.
func oddNumber(s *rand.Rand, n int) int {
	return pick(s, []int{n - 1, n + 1, n + 1, n + 5, n - 5, 0, 1, 2, 3, 4, -1, math.MaxInt, math.MinInt, 1_000_000, 1_000_001})
}

// spoilSymbols changes symbols: one of them, or how many there are.
func spoilSymbols(s *rand.Rand, l []string, others []string) []string {
	if len(l) == 0 {
		return []string{pick(s, others)}
	}
	i := s.Intn(len(l))
	switch s.Intn(4) {
	case 0:
		return slices.Delete(l, i, i+1)
	case 1:
		return slices.Insert(l, i, pick(s, others))
	default:
		l[i] = pick(s, others)
		return l
	}
}

// spoilBox changes a box of a book, or how many there are.
func spoilBox(s *rand.Rand, b *api.Book) {
	if len(b.Boxes) == 0 {
		return
	}
	i := s.Intn(len(b.Boxes))
	x := &b.Boxes[i]
	switch s.Intn(6) {
	case 0:
		x.Over = oddNumber(s, x.Over)
	case 1:
		x.Bowler = oddNumber(s, x.Bowler)
	case 2:
		b.Boxes = slices.Delete(b.Boxes, i, i+1)
	case 3:
		// One box becomes two.
		at := s.Intn(len(x.Symbols) + 1)
		more := api.Box{Over: x.Over, Bowler: 1 + s.Intn(4), Symbols: slices.Clone(x.Symbols[at:])}
		x.Symbols = x.Symbols[:at]
		b.Boxes = slices.Insert(b.Boxes, i+1, more)
	default:
		x.Symbols = spoilSymbols(s, x.Symbols, []string{".", "1", "4", ".W", ".R", ".b1", ".l2", "w2", "w1", "n3", "n4", "n5R", "w2W", "8R", "12", "w", "n3W", "", "1W", "0"})
	}
}

// spoilStrip changes a strip of a book, or how many there are.
func spoilStrip(s *rand.Rand, b *api.Book) {
	if len(b.Strips) == 0 {
		return
	}
	i := s.Intn(len(b.Strips))
	x := &b.Strips[i]
	switch s.Intn(6) {
	case 0:
		x.Player = oddNumber(s, x.Player)
	case 1:
		x.Bowler = oddNumber(s, x.Bowler)
	case 2:
		x.How = api.How(s.Intn(14))
	case 3:
		b.Strips = slices.Delete(b.Strips, i, i+1)
	default:
		x.Symbols = spoilSymbols(s, x.Symbols, []string{".", "1", "2", "11", "12", "w1", "", "01"})
	}
}

// spoil changes a book.
func spoil(s *rand.Rand, b *api.Book) {
	x := &b.Extras
	numbers := []*int{&b.Side, &b.Total, &b.Wickets, &x.Wides, &x.NoBalls, &x.Byes, &x.LegByes, &x.Penalties}
	switch s.Intn(3) {
	case 0:
		n := pick(s, numbers)
		*n = oddNumber(s, *n)
	case 1:
		spoilBox(s, b)
	default:
		spoilStrip(s, b)
	}
}

// shuffle changes a book in ways that its sums may allow.
func shuffle(s *rand.Rand, b *api.Book) {
	i, k := s.Intn(len(b.Strips)), s.Intn(len(b.Strips))
	one, other := &b.Strips[i], &b.Strips[k]
	switch s.Intn(5) {
	case 0:
		b.Extras.Penalties += 5
		b.Total += 5
	case 1:
		if len(one.Symbols) > 0 {
			other.Symbols = append(other.Symbols, one.Symbols[0])
			one.Symbols = one.Symbols[1:]
		}
	case 2:
		one.How, other.How = other.How, one.How
		one.Bowler, other.Bowler = other.Bowler, one.Bowler
	case 3:
		b.Side = 3 - b.Side
	case 4:
		for _, box := range b.Boxes {
			s.Shuffle(len(box.Symbols), func(i, j int) { box.Symbols[i], box.Symbols[j] = box.Symbols[j], box.Symbols[i] })
		}
	}
}

func TestCheck(t *testing.T) {
	s, met := rand.New(rand.NewSource(3)), map[api.Errno]int{}
	forEachLog(3, func(r api.Rules, l []api.Event) {
		for _, b := range mustWrite(t, r, l) {
			for range 25 {
				changed := clone(b)
				shuffle(s, &changed)
				for range s.Intn(3) {
					spoil(s, &changed)
				}
				got, want := boxbook.Check(r, changed), check(r, changed)
				if got != want {
					t.Fatalf("%s, %+v: %d, want %d", r.Name, changed, got, want)
				}
				met[want]++
			}
		}
	})
	for _, e := range []api.Errno{api.OK, api.ErrRange, api.ErrForm, api.ErrOrder, api.ErrLimit, api.ErrExists, api.ErrType, api.ErrArg, api.ErrSum} {
		if met[e] < 30 {
			t.Errorf("the error %d was met %d times", e, met[e])
		}
	}
	if len(met) != 9 {
		t.Errorf("met: %v", met)
	}
}

// sample returns rules and a book with all that a book may have: the log and what is written of it.
func sample(t *testing.T) (api.Rules, api.Book) {
	t.Helper()
	r := api.Rules{Name: "SAMPLE", Side: 7, Innings: 1, Overs: 5, Balls: 4, Wide: 1, NoBall: 2}
	l := samples.Log("TOSS 1 BAT\nOPEN 1 2\nKEEPER 7\nBOWL 1\nBALL 1\nBALL F\nBALL w1\nBALL n2\nBALL ./R1(2)\nENTER 3\nBALL l1\nBOWL 2\nPENALTY 1 5\nBALL ./C1(1)\n" +
		"ENTER 4\nBALL ./L1\nENTER 5\nBALL b2\nBOWL 3\nBALL .\nBOWL 1\nBALL ./B1\nTIMEOUT 6\nENTER 7\nBALL .\nBALL .\nBALL .\nBOWL 4\nBALL n.\n")
	b := mustWrite(t, r, l)[0]
	if b.Total != 21 || b.Wickets != 5 || len(b.Boxes) != 5 || len(b.Strips) != 7 || b.Strips[5].How != api.TimedOut {
		t.Fatalf("the sample is %+v", b)
	}
	return r, b
}

// Each sum is checked, also where all the others agree.
func TestCheckOfEachSum(t *testing.T) {
	r, good := sample(t)
	if e := boxbook.Check(r, good); e != api.OK {
		t.Fatalf("the sample has the error %d", e)
	}
	for _, x := range []struct {
		name   string
		change func(b *api.Book)
	}{
		{"a ball too many in a strip", func(b *api.Book) { b.Strips[0].Symbols = append(b.Strips[0].Symbols, ".") }},
		{"a ball too few in a strip", func(b *api.Book) { b.Strips[0].Symbols = b.Strips[0].Symbols[:len(b.Strips[0].Symbols)-1] }},
		{"a run too many in a strip", func(b *api.Book) { b.Strips[0].Symbols[0] = "2" }},
		{"wides that are runs", func(b *api.Book) { b.Extras.Wides--; b.Strips[0].Symbols[0] = "2" }},
		{"no-balls that are runs", func(b *api.Book) { b.Extras.NoBalls--; b.Strips[0].Symbols[0] = "2" }},
		{"wides that are no-balls", func(b *api.Book) { b.Extras.Wides--; b.Extras.NoBalls++ }},
		{"a bye too many", func(b *api.Book) { b.Extras.Byes++; b.Total++ }},
		{"a leg bye too many", func(b *api.Book) { b.Extras.LegByes++; b.Total++ }},
		{"byes that are leg byes", func(b *api.Book) { b.Extras.LegByes++; b.Extras.Byes-- }},
		{"a penalty run", func(b *api.Book) { b.Extras.Penalties++; b.Total++ }},
		{"a penalty that is not in the total", func(b *api.Book) { b.Extras.Penalties += 5 }},
		{"a total too high", func(b *api.Book) { b.Total++ }},
		{"a total too low by a penalty", func(b *api.Book) { b.Total -= 5 }},
		{"a wicket too many", func(b *api.Book) { b.Wickets++ }},
		{"a wicket too few", func(b *api.Book) { b.Wickets-- }},
		{"a wicket of another bowler", func(b *api.Book) { b.Strips[2].Bowler = 1 }},
		{"a wicket of a bowler without a box", func(b *api.Book) { b.Strips[2].Bowler = 6 }},
		{"bowlers of wickets in exchange", func(b *api.Book) { b.Boxes[1].Bowler, b.Boxes[2].Bowler = 5, 2 }},
		{"a run out without a ball", func(b *api.Book) { b.Strips[5].How = api.RunOut }},
		{"a run out that is none", func(b *api.Book) { b.Strips[0].How = api.TimedOut }},
		{"a run out that is caught", func(b *api.Book) { b.Strips[0].How, b.Strips[0].Bowler = api.Caught, 1 }},
		{"a wicket of a bowler that is a run out", func(b *api.Book) { b.Boxes[1].Symbols[0] = ".R" }},
		{"a bye that is a leg bye in the box", func(b *api.Book) { b.Boxes[1].Symbols[2] = ".l2" }},
		{"a bye that is a run in the box", func(b *api.Book) { b.Boxes[1].Symbols[2] = "2" }},
		{"a wide that is a ball", func(b *api.Book) { b.Boxes[4].Symbols[0] = "w2" }},
		{"a ball without a place in a strip", func(b *api.Book) { b.Boxes[4].Symbols = append(b.Boxes[4].Symbols, ".") }},
		{"no strips", func(b *api.Book) { b.Strips = nil }},
		{"no boxes", func(b *api.Book) { b.Boxes = nil }},
	} {
		b := clone(good)
		x.change(&b)
		if e := boxbook.Check(r, b); e != api.ErrSum {
			t.Errorf("%s: %d", x.name, e)
		}
		if e := check(r, b); e != api.ErrSum {
			t.Errorf("%s: the document says %d", x.name, e)
		}
	}
	for _, x := range []struct {
		name   string
		change func(b *api.Book)
	}{
		{"nothing", func(b *api.Book) { *b = api.Book{Side: 2} }},
		{"penalty runs alone", func(b *api.Book) {
			*b = api.Book{Side: 1, Total: 1_000_000, Extras: api.Extras{Penalties: 1_000_000}}
		}},
		{"a timeout alone", func(b *api.Book) {
			*b = api.Book{Side: 1, Wickets: 1, Strips: []api.Strip{{Player: 3, How: api.TimedOut}}}
		}},
		{"a run out that is an obstruction", func(b *api.Book) { b.Strips[0].How = api.Obstructing }},
		{"a run out that is a ball hit twice", func(b *api.Book) { b.Strips[0].How = api.HitTwice }},
		{"a catch that is a stumping", func(b *api.Book) { b.Strips[2].How = api.Stumped }},
		{"a timeout that is a retirement", func(b *api.Book) { b.Strips[5].How = api.RetiredOut }},
		{"a timeout of a batter", func(b *api.Book) { b.Strips[5].Symbols, b.Strips[0].Symbols = b.Strips[0].Symbols, nil }},
		{"another order of the strips", func(b *api.Book) { slices.Reverse(b.Strips) }},
		{"balls after the over is complete", func(b *api.Book) {
			b.Boxes[0].Symbols = append(b.Boxes[0].Symbols, "w1", "n2")
			b.Extras.Wides, b.Extras.NoBalls, b.Total = b.Extras.Wides+1, b.Extras.NoBalls+2, b.Total+3
			b.Strips[0].Symbols = append(b.Strips[0].Symbols, ".")
		}},
		{"both sides", func(b *api.Book) { b.Side = 2 }},
	} {
		b := clone(good)
		x.change(&b)
		if e := boxbook.Check(r, b); e != api.OK {
			t.Errorf("%s: %d", x.name, e)
		}
		if e := check(r, b); e != api.OK {
			t.Errorf("%s: the document says %d", x.name, e)
		}
	}
}

// boxes returns a book with boxes, without sums that agree.
func boxes(l ...api.Box) api.Book { return api.Book{Side: 1, Boxes: l} }

// box returns a box.
func box(over, bowler int, symbols string) api.Box {
	return api.Box{Over: over, Bowler: bowler, Symbols: strings.Fields(symbols)}
}

func TestCheckOfBoxes(t *testing.T) {
	r := samples.Limited()
	r.Overs = 90
	for _, x := range []struct {
		b    api.Book
		want api.Errno
	}{
		{boxes(box(0, 1, ". . . .")), api.ErrSum},
		{boxes(box(0, 0, ".")), api.ErrRange}, {boxes(box(0, 5, ".")), api.ErrRange}, {boxes(box(0, math.MinInt, ".")), api.ErrRange}, {boxes(box(0, math.MaxInt, ".")), api.ErrRange},
		{boxes(box(0, 1, "")), api.ErrForm}, {boxes(box(0, 1, ". x .")), api.ErrForm}, {boxes(box(0, 1, ". . 1W")), api.ErrForm},
		{boxes(box(1, 1, ".")), api.ErrOrder}, {boxes(box(-1, 1, ".")), api.ErrOrder}, {boxes(box(math.MaxInt, 1, ".")), api.ErrOrder}, {boxes(box(math.MinInt, 1, ".")), api.ErrOrder},
		{boxes(box(0, 1, ". . . . .")), api.ErrLimit}, {boxes(box(0, 1, ". . w2 n3 . . n3 w2")), api.ErrSum},
		{boxes(box(0, 1, ". ."), box(0, 2, "."), box(0, 1, "."), box(1, 1, ".")), api.ErrSum},
		{boxes(box(0, 1, ". ."), box(0, 1, ". .")), api.ErrOrder}, {boxes(box(0, 1, ". ."), box(1, 2, ". .")), api.ErrOrder}, {boxes(box(0, 1, "w2"), box(1, 1, ".")), api.ErrOrder},
		{boxes(box(0, 1, ". ."), box(0, 2, ". . .")), api.ErrLimit}, {boxes(box(0, 1, ". . ."), box(0, 2, ". w2 n3"), box(1, 2, ".")), api.ErrSum},
		{boxes(box(0, 1, ". . . ."), box(0, 2, ".")), api.ErrOrder}, {boxes(box(0, 1, ". . . ."), box(0, 2, "w2")), api.ErrOrder}, {boxes(box(0, 1, ". . . ."), box(2, 2, ".")), api.ErrOrder},
		{boxes(box(0, 1, ". . . ."), box(1, 1, ". . . ."), box(2, 1, ". . . ."), box(3, 1, ". . . .")), api.ErrSum},
		// Overs are not limited by the rules.
		{boxes(box(0, 1, ". . . ."), box(1, 2, ". . . ."), box(2, 1, ". . . ."), box(3, 2, ". . . ."), box(4, 1, ".")), api.ErrSum},
		// The errors of a box come in the order of the document, and those of a box before come first.
		{boxes(box(3, 0, "x")), api.ErrRange}, {boxes(box(3, 1, "x . . . .")), api.ErrForm}, {boxes(box(3, 1, ". . . . .")), api.ErrOrder},
		{boxes(box(0, 1, ". . . . ."), box(9, 9, "x")), api.ErrLimit}, {boxes(box(3, 1, "."), box(9, 9, "x")), api.ErrOrder}, {boxes(box(0, 1, "x"), box(9, 9, "x")), api.ErrForm},
	} {
		if e := boxbook.Check(r, x.b); e != x.want {
			t.Errorf("%+v: %d, want %d", x.b, e, x.want)
		}
		if e := check(r, x.b); e != x.want {
			t.Errorf("%+v: the document says %d, want %d", x.b, e, x.want)
		}
	}
	most := make([]api.Box, api.MaxEvents)
	for i := range most {
		most[i] = box(0, 1+i%2, "w2")
	}
	b := boxes(most...)
	b.Extras.Wides, b.Total = 8000, 8000
	if e := boxbook.Check(r, b); e != api.OK {
		t.Errorf("as many boxes as there may be: %d", e)
	}
}

func TestCheckOfStrips(t *testing.T) {
	r := samples.Limited()
	strip := func(player int, how api.How, bowler int, symbols string) api.Strip {
		return api.Strip{Player: player, How: how, Bowler: bowler, Symbols: strings.Fields(symbols)}
	}
	strips := func(l ...api.Strip) api.Book { return api.Book{Side: 1, Strips: l} }
	for _, x := range []struct {
		b    api.Book
		want api.Errno
	}{
		{strips(strip(1, 0, 0, "")), api.OK}, {strips(strip(4, 0, 0, ""), strip(1, 0, 0, ""), strip(3, 0, 0, "")), api.OK},
		{strips(strip(0, 0, 0, "")), api.ErrRange}, {strips(strip(5, 0, 0, "")), api.ErrRange}, {strips(strip(math.MinInt, 0, 0, "")), api.ErrRange}, {strips(strip(math.MaxInt, 0, 0, "")), api.ErrRange},
		{strips(strip(2, 0, 0, ""), strip(1, 0, 0, ""), strip(2, 0, 0, "")), api.ErrExists},
		{strips(strip(1, 0, 0, "x")), api.ErrForm}, {strips(strip(1, 0, 0, ". 12")), api.ErrForm}, {strips(strip(1, 0, 0, "0")), api.ErrForm}, {strips(strip(1, 0, 0, "01")), api.ErrForm}, {strips(api.Strip{Player: 1, Symbols: []string{""}}), api.ErrForm},
		{strips(strip(1, 11, 0, "")), api.ErrType}, {strips(strip(1, 255, 0, "")), api.ErrType},
		{strips(strip(1, 0, 1, "")), api.ErrArg}, {strips(strip(1, api.RunOut, 1, "")), api.ErrArg}, {strips(strip(1, api.TimedOut, 1, "")), api.ErrArg}, {strips(strip(1, api.HitTwice, -1, "")), api.ErrArg},
		{strips(strip(1, api.Bowled, 0, "")), api.ErrArg}, {strips(strip(1, api.Caught, 5, "")), api.ErrArg}, {strips(strip(1, api.LegBefore, -1, "")), api.ErrArg}, {strips(strip(1, api.Stumped, math.MaxInt, "")), api.ErrArg},
		{strips(strip(1, api.HitWicket, 4, "")), api.ErrSum}, {strips(strip(1, api.RetiredOut, 0, "")), api.ErrSum}, {strips(strip(1, 0, 0, "11 .")), api.ErrSum},
		// The errors of a strip come in the order of the document, and those of a strip before come first.
		{strips(strip(2, 0, 0, ""), strip(5, 99, 9, "x")), api.ErrRange}, {strips(strip(2, 0, 0, ""), strip(2, 99, 9, "x")), api.ErrExists}, {strips(strip(1, 99, 9, "x")), api.ErrForm}, {strips(strip(1, 99, 9, "1")), api.ErrType},
		{strips(strip(1, 0, 9, ""), strip(0, 0, 0, "")), api.ErrArg}, {strips(strip(1, 99, 0, ""), strip(0, 0, 0, "")), api.ErrType}, {strips(strip(1, 0, 0, "x"), strip(0, 0, 0, "")), api.ErrForm},
		// Boxes come before strips.
		{api.Book{Side: 1, Boxes: []api.Box{box(0, 1, ". . . . .")}, Strips: []api.Strip{strip(0, 0, 0, "")}}, api.ErrLimit},
	} {
		if e := boxbook.Check(r, x.b); e != x.want {
			t.Errorf("%+v: %d, want %d", x.b, e, x.want)
		}
		if e := check(r, x.b); e != x.want {
			t.Errorf("%+v: the document says %d, want %d", x.b, e, x.want)
		}
	}
}

// Check accepts exactly the symbols of boxes that the document lists.
func TestCheckOfSymbols(t *testing.T) {
	for _, r := range []api.Rules{samples.Limited(), samples.Long()} {
		symbols, met := listed(r), 0
		pieces := []string{"", "w", "n", ".", "b", "l", "W", "R", "0", "1", "2", "3", "4", "5", "7", "8", "9", "11", "12", "13", "15", "16", " ", "-1"}
		for _, a := range pieces {
			for _, b := range pieces {
				for _, c := range pieces {
					for _, d := range []string{"", "R", "W", "l7", "l8R", "b7R", "b11", "b12", "x"} {
						s := a + b + c + d
						want := api.ErrForm
						if symbols[s] {
							want = api.ErrSum
							met++
						}
						if e := boxbook.Check(r, boxes(api.Box{Bowler: 1, Symbols: []string{s}})); e != want {
							t.Fatalf("%s, %q: %d, want %d", r.Name, s, e, want)
						}
					}
				}
			}
		}
		if met < 200 {
			t.Errorf("%s: only %d symbols", r.Name, met)
		}
	}
}

// The last player of the greatest side bats, bowls and gets wickets as others do.
func TestCheckOfTheGreatestSide(t *testing.T) {
	r, e := rules.Standard("TWENTY")
	b := boxes(box(0, 11, ". .W . .W . .R"))
	b.Strips = []api.Strip{{Player: 11, Symbols: []string{".", ".", "."}, How: api.Bowled, Bowler: 11}, {Player: 10, Symbols: []string{".", ".", "."}, How: api.LegBefore, Bowler: 11}, {Player: 9, How: api.RunOut}}
	b.Wickets = 3
	if bad := boxbook.Check(r, b); e != api.OK || bad != api.OK {
		t.Errorf("%d, %d", e, bad)
	}
	if got, e := boxbook.Bowlers(r, b); e != api.OK || len(got) != 1 || got[0] != (api.BowlLine{Player: 11, Balls: 6, Maidens: 1, Wickets: 2}) {
		t.Errorf("%+v, %d", got, e)
	}
	b.Strips[0].Bowler = 10
	if bad := boxbook.Check(r, b); bad != api.ErrSum {
		t.Errorf("a wicket of another bowler: %d", bad)
	}
	b.Strips[0].Bowler = 12
	if bad := boxbook.Check(r, b); bad != api.ErrArg {
		t.Errorf("a wicket of a bowler that there is not: %d", bad)
	}
}

// The errors of the first step come in the order of the document.
func TestCheckOrder(t *testing.T) {
	r, good := sample(t)
	x := func(b *api.Book) []*int {
		e := &b.Extras
		return []*int{&b.Total, &b.Wickets, &e.Wides, &e.NoBalls, &e.Byes, &e.LegByes, &e.Penalties}
	}
	many := api.Book{Side: 1, Boxes: make([]api.Box, api.MaxEvents+1)}
	for i := range x(&good) {
		for _, n := range []int{-1, math.MinInt, 1_000_001, math.MaxInt} {
			for _, from := range []api.Book{good, many} {
				b := clone(from)
				*x(&b)[i] = n
				if e := boxbook.Check(r, b); e != api.ErrRange {
					t.Errorf("number %d, %d: %d", i, n, e)
				}
			}
		}
		b := clone(good)
		*x(&b)[i] = 1_000_000
		if e := boxbook.Check(r, b); e != api.ErrSum {
			t.Errorf("number %d, as great as it may be: %d", i, e)
		}
	}
	for _, side := range []int{0, 3, -1, math.MinInt, math.MaxInt} {
		b := clone(many)
		b.Side = side
		if e := boxbook.Check(r, b); e != api.ErrRange {
			t.Errorf("side %d: %d", side, e)
		}
	}
	balls := slices.Repeat([]string{"."}, api.MaxEvents+1)
	for _, b := range []api.Book{
		many,
		{Side: 1, Strips: make([]api.Strip, api.MaxEvents+1)},
		{Side: 1, Boxes: []api.Box{{Symbols: balls}}},
		{Side: 1, Strips: []api.Strip{{Symbols: balls[1:]}, {Symbols: balls[:1]}}},
	} {
		if e := boxbook.Check(r, b); e != api.ErrLimit {
			t.Errorf("%d boxes, %d strips: %d", len(b.Boxes), len(b.Strips), e)
		}
	}
	for want, bad := range samples.Bad() {
		for _, b := range []api.Book{good, many, {}, {Side: 1, Total: -1}} {
			if e := boxbook.Check(bad, b); e != want {
				t.Errorf("%+v: %d", bad, e)
			}
		}
	}
}

// P21.4

// bowlers does what the document says of Bowlers.
func bowlers(r api.Rules, b api.Book) []api.BowlLine {
	var lines []api.BowlLine
	var order []int
	for _, x := range b.Boxes {
		if !slices.Contains(order, x.Bowler) {
			order = append(order, x.Bowler)
		}
	}
	for _, player := range order {
		line := api.BowlLine{Player: player}
		for i, x := range b.Boxes {
			if x.Bowler != player {
				continue
			}
			charges, others := 0, false
			for _, s := range x.Symbols {
				p := split(s)
				charges += p.charge
				if p.wide {
					line.Wides++
				}
				if p.noBall {
					line.NoBalls++
				}
				if p.last == 'W' {
					line.Wickets++
				}
			}
			line.Runs += charges
			line.Balls += legal(x.Symbols)
			for k, y := range b.Boxes {
				others = others || k != i && y.Over == x.Over
			}
			if !others && legal(x.Symbols) == r.Balls && charges == 0 {
				line.Maidens++
			}
		}
		lines = append(lines, line)
	}
	return lines
}

// batters does what the document says of Batters.
func batters(b api.Book) []api.BatLine {
	var lines []api.BatLine
	for _, x := range b.Strips {
		line := api.BatLine{Player: x.Player, Balls: len(x.Symbols), Out: x.How != api.NotOut, How: x.How, Bowler: x.Bowler}
		for _, s := range x.Symbols {
			n, _ := strconv.Atoi(s)
			line.Runs += n
		}
		line.Batted = x.How != api.TimedOut || len(x.Symbols) > 0
		lines = append(lines, line)
	}
	return lines
}

func TestBowlersAndBatters(t *testing.T) {
	s, met := rand.New(rand.NewSource(4)), map[string]int{}
	forEachLog(4, func(r api.Rules, l []api.Event) {
		for i, b := range mustWrite(t, r, l) {
			for k := range 4 {
				changed := clone(b)
				if k > 0 {
					shuffle(s, &changed)
				}
				if k > 1 {
					spoil(s, &changed)
				}
				e := check(r, changed)
				var bowl []api.BowlLine
				var bat []api.BatLine
				if e == api.OK {
					bowl, bat = bowlers(r, changed), batters(changed)
				}
				gotBowl, bowlErr := boxbook.Bowlers(r, changed)
				gotBat, batErr := boxbook.Batters(r, changed)
				if bowlErr != e || batErr != e || !slices.Equal(gotBowl, bowl) || !slices.Equal(gotBat, bat) {
					t.Fatalf("%s, %+v: %+v, %d, %+v, %d, want %+v, %+v, %d", r.Name, changed, gotBowl, bowlErr, gotBat, batErr, bowl, bat, e)
				}
				count(met, map[string]bool{"accepted": e == api.OK, "refused": e != api.OK})
				if k > 0 {
					continue
				}
				// Runs of batters and of bowlers are those of the log.
				c, _ := tally.Parties(r, l, i)
				for _, x := range bowl {
					c.Bowler -= x.Runs
					count(met, map[string]bool{"a maiden": x.Maidens > 0, "wides": x.Wides > 1, "no-balls": x.NoBalls > 1, "wickets": x.Wickets > 1})
				}
				for _, x := range bat {
					c.Batter -= x.Runs
					count(met, map[string]bool{"not batted": !x.Batted})
				}
				if c.Bowler != 0 || c.Batter != 0 {
					t.Fatalf("%s, %+v: %d runs of bowlers and %d of batters are missing", r.Name, l, c.Bowler, c.Batter)
				}
			}
		}
	})
	if len(met) != 7 || met["a maiden"] < 2 {
		t.Errorf("met: %v", met)
	}
}

func TestBowlersTell(t *testing.T) {
	r := api.Rules{Name: "BOWL", Side: 4, Innings: 1, Overs: 20, Balls: 4, Wide: 1, NoBall: 2}
	b := boxes(
		box(0, 3, ". .b2 .l1 .W"),                                    // a maiden
		box(1, 1, ". . . w1 ."),                                      // a wide
		box(2, 3, ". ."), box(2, 2, ". .W"), box(3, 3, "n2 . . . ."), // two bowlers, a no-ball
		box(4, 2, ".R . . ."), box(5, 1, ". . . ."), box(6, 3, ". 4 . w3R"), // two maidens, an over that does not end
	)
	b.Strips = []api.Strip{
		{Player: 1, How: api.Bowled, Bowler: 3, Symbols: slices.Repeat([]string{"."}, 27)}, {Player: 2, How: api.LegBefore, Bowler: 2, Symbols: []string{"4"}}, {Player: 3, How: api.RunOut}, {Player: 4, How: api.RunOut},
	}
	b.Extras = api.Extras{Wides: 4, NoBalls: 2, Byes: 2, LegByes: 1}
	b.Total, b.Wickets = 13, 4
	want := []api.BowlLine{
		{Player: 3, Balls: 13, Maidens: 1, Runs: 9, Wickets: 1, Wides: 1, NoBalls: 1},
		{Player: 1, Balls: 8, Maidens: 1, Runs: 1, Wides: 1},
		{Player: 2, Balls: 6, Maidens: 1, Wickets: 1},
	}
	got, e := boxbook.Bowlers(r, b)
	if e != api.OK || !slices.Equal(got, want) {
		t.Errorf("%+v, %d", got, e)
	}
	if said := bowlers(r, b); !slices.Equal(said, want) {
		t.Errorf("the document says %+v", said)
	}
	// An over that is complete before its last ball is no maiden either way.
	b = boxes(box(0, 1, ". . . . w1"))
	b.Strips, b.Extras.Wides, b.Total = []api.Strip{{Player: 1, Symbols: []string{".", ".", ".", "."}}}, 1, 1
	if got, e := boxbook.Bowlers(r, b); e != api.OK || len(got) != 1 || got[0] != (api.BowlLine{Player: 1, Balls: 4, Runs: 1, Wides: 1}) {
		t.Errorf("%+v, %d", got, e)
	}
	// A maiden is an over of one bowler, even if another one has no ball of it that counts.
	b = boxes(box(0, 1, "w1"), box(0, 2, ". . . ."), box(1, 2, ". . . ."), box(2, 3, ". . . ."))
	b.Strips, b.Extras.Wides, b.Total = []api.Strip{{Player: 1, Symbols: slices.Repeat([]string{"."}, 12)}}, 1, 1
	if got, e := boxbook.Bowlers(r, b); e != api.OK || !slices.Equal(got, []api.BowlLine{{Player: 1, Runs: 1, Wides: 1}, {Player: 2, Balls: 8, Maidens: 1}, {Player: 3, Balls: 4, Maidens: 1}}) {
		t.Errorf("%+v, %d", got, e)
	}
	if got, e := boxbook.Bowlers(r, api.Book{Side: 1}); e != api.OK || len(got) != 0 {
		t.Errorf("no boxes: %+v, %d", got, e)
	}
	if got, e := boxbook.Bowlers(r, api.Book{}); e != api.ErrRange || len(got) != 0 {
		t.Errorf("no side: %+v, %d", got, e)
	}
}

func TestBattersTell(t *testing.T) {
	r, b := sample(t)
	want := []api.BatLine{
		{Player: 1, Runs: 3, Balls: 3, Out: true, How: api.RunOut, Batted: true},
		{Player: 2, Runs: 4, Balls: 2, Out: true, How: api.Bowled, Bowler: 1, Batted: true},
		{Player: 3, Balls: 2, Out: true, How: api.Caught, Bowler: 2, Batted: true},
		{Player: 4, Balls: 1, Out: true, How: api.LegBefore, Bowler: 2, Batted: true},
		{Player: 5, Balls: 3, Batted: true},
		{Player: 6, Out: true, How: api.TimedOut},
		{Player: 7, Balls: 3, Batted: true},
	}
	got, e := boxbook.Batters(r, b)
	if e != api.OK || !slices.Equal(got, want) {
		t.Errorf("%+v, %d, want %+v", got, e, want)
	}
	// A batter who retired hurt and was timed out later has batted if there was a ball.
	b.Strips[5].Symbols, b.Strips[1].Symbols = b.Strips[1].Symbols[:1], b.Strips[1].Symbols[1:]
	if got, e = boxbook.Batters(r, b); e != api.OK || !got[5].Batted || got[5].How != api.TimedOut {
		t.Errorf("%+v, %d", got, e)
	}
	if got, e := boxbook.Batters(r, api.Book{Side: 1}); e != api.OK || len(got) != 0 {
		t.Errorf("no strips: %+v, %d", got, e)
	}
	for want, bad := range samples.Bad() {
		bat, e := boxbook.Batters(bad, b)
		bowl, f := boxbook.Bowlers(bad, b)
		if e != want || f != want || len(bat)+len(bowl) != 0 {
			t.Errorf("%+v: %+v, %d, %+v, %d", bad, bat, e, bowl, f)
		}
	}
}
