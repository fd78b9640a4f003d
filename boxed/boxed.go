// Package boxed has what is entered in boxes and strips, for the layers that read the box scorebook.
package boxed

import (
	"strings"

	"scorebook/api"
	"scorebook/delivery"
	"scorebook/dismissal"
	"scorebook/text"
)

// Signs of symbols.
const (
	wideSign   = "w"
	noBallSign = "n"
	noneSign   = "."
	byesSign   = "b"
	legSign    = "l"
	wicketSign = "W" // the bowler gets the wicket
	outSign    = "R" // a batter is out, and the bowler does not get the wicket
)

const (
	boundary = 4
	mostRuns = api.MaxRun + boundary // runs of a delivery, without those for a wide or a no-ball
)

// Fits reports whether a delivery may be entered: whether it is legal in some state.
func Fits(d api.Delivery) bool {
	return delivery.Legal(d) == api.Legal && dismissal.Possible(d, false) == api.Legal
}

// Box returns the symbol of a delivery that fits in a bowler's box.
func Box(r api.Rules, d api.Delivery) string {
	c := delivery.Credit(r, d)
	return typeSign(d.Type) + runsSign(c.Bowler) + extraSign(byesSign, c.Byes) + extraSign(legSign, c.LegByes) + howSign(d.How)
}

// Strip returns the symbol of a delivery that fits in a batter's strip, empty if the striker did not face it.
func Strip(r api.Rules, d api.Delivery) string {
	c := delivery.Credit(r, d)
	if !c.Faced {
		return ""
	}
	return runsSign(c.Batter)
}

func typeSign(t api.Type) string {
	switch t {
	case api.WideBall:
		return wideSign
	case api.NoBall:
		return noBallSign
	}
	return ""
}

func runsSign(n int) string {
	if n == 0 {
		return noneSign
	}
	return text.Decimal(int64(n))
}

func extraSign(sign string, n int) string {
	if n == 0 {
		return ""
	}
	return sign + text.Decimal(int64(n))
}

func howSign(h api.How) string {
	switch {
	case delivery.Credited(h):
		return wicketSign
	case h != api.NotOut:
		return outSign
	}
	return ""
}

// Read returns a delivery with a symbol of a box, and whether there is one; all such deliveries have the same runs, extras and balls.
func Read(r api.Rules, s string) (api.Delivery, bool) {
	d := read(r, s)
	// What is read need not be all of s, or may be no delivery that there is: Box decides.
	if !Fits(d) || Box(r, d) != s {
		return api.Delivery{}, false
	}
	return d, true
}

// read returns a delivery with a symbol of a box, and some delivery if s is none.
func read(r api.Rules, s string) api.Delivery {
	d := api.Delivery{Type: api.Fair, Source: api.OffBat}
	d.How, s = readHow(s)
	if d.How != api.NotOut {
		// Any batter and fielder will do, as the symbol does not name them.
		d.Victim, d.Fielder = 1, 1
	}
	if rest, ok := strings.CutPrefix(s, wideSign); ok {
		d.Type, d.Source = api.WideBall, api.NoRuns
		return withRuns(d, number(rest)-r.Wide)
	}
	plain := 0
	if rest, ok := strings.CutPrefix(s, noBallSign); ok {
		d.Type, plain, s = api.NoBall, r.NoBall, rest
	}
	if _, byes, ok := strings.Cut(s, byesSign); ok {
		d.Source = api.Byes
		return withRuns(d, number(byes))
	}
	if _, byes, ok := strings.Cut(s, legSign); ok {
		d.Source = api.LegByes
		return withRuns(d, number(byes))
	}
	return withRuns(d, number(s)-plain)
}

// readHow returns a way of being out for the last sign of a symbol, and the rest of the symbol.
func readHow(s string) (api.How, string) {
	if rest, ok := strings.CutSuffix(s, wicketSign); ok {
		return api.Stumped, rest
	}
	if rest, ok := strings.CutSuffix(s, outSign); ok {
		return api.RunOut, rest
	}
	return api.NotOut, s
}

// number returns the number of a decimal, 0 if there is none that a symbol may have.
func number(s string) int {
	n, _ := text.Number(s, 0, 99)
	return int(n)
}

// withRuns returns a delivery with n runs, by a boundary only if they cannot all be run.
func withRuns(d api.Delivery, n int) api.Delivery {
	switch {
	case n > api.MaxRun:
		d.Runs, d.Boundary = n-boundary, boundary
	case n == 0:
		d.Source = api.NoRuns
	default:
		d.Runs = n
	}
	return d
}

// Runs returns the runs of a symbol of a strip, and whether it is one.
func Runs(s string) (int, bool) {
	if s == noneSign {
		return 0, true
	}
	n, e := text.Number(s, 1, mostRuns)
	return int(n), e == api.OK
}

// TooMany reports whether a book has more boxes, strips or symbols of either than there may be.
func TooMany(b api.Book) bool {
	inBoxes, inStrips := 0, 0
	for _, x := range b.Boxes {
		inBoxes += len(x.Symbols)
	}
	for _, x := range b.Strips {
		inStrips += len(x.Symbols)
	}
	return max(len(b.Boxes), len(b.Strips), inBoxes, inStrips) > api.MaxEvents
}
