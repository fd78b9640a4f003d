package boxbook

import (
	"slices"

	"scorebook/api"
	"scorebook/boxed"
	"scorebook/delivery"
	"scorebook/dismissal"
	"scorebook/rules"
)

const penalty = 5 // runs of a penalty

// Check returns the first error of a book, among them that its sums do not agree.
func Check(r api.Rules, b api.Book) api.Errno {
	if e := rules.Check(r); e != api.OK {
		return e
	}
	x := b.Extras
	switch {
	case b.Side != 1 && b.Side != 2, !fit(b.Total, b.Wickets, x.Wides, x.NoBalls, x.Byes, x.LegByes, x.Penalties):
		return api.ErrRange
	case boxed.TooMany(b):
		return api.ErrLimit
	}
	if e := checkBoxes(r, b.Boxes); e != api.OK {
		return e
	}
	if e := checkStrips(r, b.Strips); e != api.OK {
		return e
	}
	if !agrees(r, b) {
		return api.ErrSum
	}
	return api.OK
}

// fit reports whether all numbers are such as a book may have.
func fit(numbers ...int) bool {
	for _, n := range numbers {
		if n < 0 || n > MaxNumber {
			return false
		}
	}
	return true
}

func isPlayer(r api.Rules, n int) bool { return n >= 1 && n <= r.Side }

// checkBoxes returns the first error of boxes.
func checkBoxes(r api.Rules, boxes []api.Box) api.Errno {
	// Where the next box stands: its over, who bowled in it before, and the balls of the over.
	over, bowler, balls := 0, 0, 0
	for _, x := range boxes {
		l, ok := credits(r, x.Symbols)
		switch {
		case !isPlayer(r, x.Bowler):
			return api.ErrRange
		case !ok || len(l) == 0:
			return api.ErrForm
		case x.Over != over, x.Bowler == bowler:
			return api.ErrOrder
		}
		bowler, balls = x.Bowler, balls+analysis(l).Balls
		if balls > r.Balls {
			return api.ErrLimit
		}
		if balls == r.Balls {
			over, bowler, balls = over+1, 0, 0
		}
	}
	return api.OK
}

// credits returns the credits of the symbols of a box, and whether all of them are such symbols.
func credits(r api.Rules, symbols []string) ([]api.Credit, bool) {
	var l []api.Credit
	for _, s := range symbols {
		d, ok := boxed.Read(r, s)
		if !ok {
			return nil, false
		}
		l = append(l, delivery.Credit(r, d))
	}
	return l, true
}

// checkStrips returns the first error of strips.
func checkStrips(r api.Rules, strips []api.Strip) api.Errno {
	for i, x := range strips {
		switch {
		case !isPlayer(r, x.Player):
			return api.ErrRange
		case slices.ContainsFunc(strips[:i], func(s api.Strip) bool { return s.Player == x.Player }):
			return api.ErrExists
		case slices.ContainsFunc(x.Symbols, notStrip):
			return api.ErrForm
		case dismissal.Name(x.How) == "":
			return api.ErrType
		case !bowlerFits(r, x):
			return api.ErrArg
		}
	}
	return api.OK
}

func notStrip(s string) bool {
	_, ok := boxed.Runs(s)
	return !ok
}

// bowlerFits reports whether a strip names a bowler exactly if one gets the wicket.
func bowlerFits(r api.Rules, s api.Strip) bool {
	if delivery.Credited(s.How) {
		return isPlayer(r, s.Bowler)
	}
	return s.Bowler == 0
}

// sums are what the boxes and the rest of a book both tell, penalty runs aside.
type sums struct {
	faced, batter                 int // balls that batters faced, and the runs off the bat
	wides, noBalls, byes, legByes int
	total                         int
	wickets                       [api.MaxSide + 1]int // by the bowler who gets them, 0 if nobody does
}

// agrees reports whether the sums of a book agree, the parts of which have no error.
func agrees(r api.Rules, b api.Book) bool {
	wickets := 0
	for _, s := range b.Strips {
		if s.How != api.NotOut {
			wickets++
		}
	}
	return wickets == b.Wickets && b.Extras.Penalties%penalty == 0 && ofBoxes(r, b.Boxes) == ofRest(b)
}

// ofBoxes returns the sums of boxes.
func ofBoxes(r api.Rules, boxes []api.Box) sums {
	var t sums
	for _, x := range boxes {
		for _, s := range x.Symbols {
			d, _ := boxed.Read(r, s)
			t.add(x.Bowler, d.How, delivery.Credit(r, d))
		}
	}
	return t
}

// add adds a delivery of a bowler.
func (t *sums) add(bowler int, how api.How, c api.Credit) {
	if c.Faced {
		t.faced++
	}
	t.batter += c.Batter
	t.wides += c.Wides
	t.noBalls += c.NoBalls
	t.byes += c.Byes
	t.legByes += c.LegByes
	t.total += delivery.Total(c)
	switch {
	case c.Wicket:
		t.wickets[bowler]++
	case how != api.NotOut:
		t.wickets[0]++
	}
}

// ofRest returns the sums that a book has beside its boxes.
func ofRest(b api.Book) sums {
	x := b.Extras
	t := sums{wides: x.Wides, noBalls: x.NoBalls, byes: x.Byes, legByes: x.LegByes, total: b.Total - x.Penalties}
	for _, s := range b.Strips {
		runs, balls := strip(s)
		t.faced += balls
		t.batter += runs
		switch s.How {
		case api.NotOut, api.TimedOut, api.RetiredOut:
			// No delivery tells of these.
		default:
			t.wickets[s.Bowler]++
		}
	}
	return t
}

// strip returns the runs and balls of a strip.
func strip(s api.Strip) (runs, balls int) {
	for _, x := range s.Symbols {
		n, _ := boxed.Runs(x)
		runs += n
	}
	return runs, len(s.Symbols)
}

// Bowlers returns the analyses that follow from the boxes.
func Bowlers(r api.Rules, b api.Book) ([]api.BowlLine, api.Errno) {
	if e := Check(r, b); e != api.OK {
		return nil, e
	}
	var lines []api.BowlLine
	for i, x := range b.Boxes {
		at := slices.IndexFunc(lines, func(line api.BowlLine) bool { return line.Player == x.Bowler })
		if at < 0 {
			at = len(lines)
			lines = append(lines, api.BowlLine{Player: x.Bowler})
		}
		l, _ := credits(r, x.Symbols)
		part := analysis(l)
		// A box with all balls of its over ends it, so that only a box before it may be of the same over.
		if part.Balls == r.Balls && part.Runs == 0 && (i == 0 || b.Boxes[i-1].Over != x.Over) {
			part.Maidens = 1
		}
		lines[at] = joined(lines[at], part)
	}
	return lines, api.OK
}

// analysis returns the sums of the deliveries of a bowler, without maidens.
func analysis(l []api.Credit) api.BowlLine {
	var line api.BowlLine
	for _, c := range l {
		line.Runs += c.Bowler
		if c.Wicket {
			line.Wickets++
		}
		switch {
		case c.Counts:
			line.Balls++
		case c.Faced:
			line.NoBalls++
		default:
			line.Wides++
		}
	}
	return line
}

// joined returns a line with the sums of a further part of it.
func joined(line, part api.BowlLine) api.BowlLine {
	line.Balls += part.Balls
	line.Maidens += part.Maidens
	line.Runs += part.Runs
	line.Wickets += part.Wickets
	line.Wides += part.Wides
	line.NoBalls += part.NoBalls
	return line
}

// Batters returns runs and balls that follow from the strips.
func Batters(r api.Rules, b api.Book) ([]api.BatLine, api.Errno) {
	if e := Check(r, b); e != api.OK {
		return nil, e
	}
	var lines []api.BatLine
	for _, s := range b.Strips {
		runs, balls := strip(s)
		lines = append(lines, api.BatLine{
			Player: s.Player, Runs: runs, Balls: balls,
			Out: s.How != api.NotOut, How: s.How, Bowler: s.Bowler, Batted: s.How != api.TimedOut || balls > 0,
		})
	}
	return lines, api.OK
}
