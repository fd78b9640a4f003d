package reconcile

import (
	"slices"

	"scorebook/api"
	"scorebook/boxbook"
	"scorebook/boxed"
	"scorebook/delivery"
	"scorebook/linear"
	"scorebook/notation"
	"scorebook/rules"
)

// entry is a row with what its symbol tells.
type entry struct {
	api.Row
	out        bool // a batter is out
	credit     api.Credit
	box, strip string // its symbols in the box scorebook
}

// read returns the entries of the rows, or the error if both books are not readable.
func read(r api.Rules, rows []api.Row, books []api.Book) ([]entry, api.Errno) {
	if e := rules.Check(r); e != api.OK {
		return nil, e
	}
	switch {
	case len(rows) > api.MaxEvents, len(books) > 2*r.Innings, slices.ContainsFunc(books, boxed.TooMany):
		return nil, api.ErrLimit
	case slices.ContainsFunc(books, func(b api.Book) bool { return !isReadable(r, b) }):
		return nil, api.ErrForm
	}
	var entries []entry
	for _, row := range rows {
		x, ok := entryOf(r, row)
		if !ok || !within(row.Innings, 0, len(books)-1) {
			return nil, api.ErrForm
		}
		entries = append(entries, x)
	}
	return entries, api.OK
}

func within(n, lo, hi int) bool { return lo <= n && n <= hi }

// isReadable reports whether a book, which has not too many parts, is readable.
func isReadable(r api.Rules, b api.Book) bool {
	x := b.Extras
	for _, n := range []int{b.Total, b.Wickets, x.Wides, x.NoBalls, x.Byes, x.LegByes, x.Penalties} {
		if !within(n, 0, boxbook.MaxNumber) {
			return false
		}
	}
	for _, x := range b.Boxes {
		if !within(x.Over, 0, linear.MaxNumber) || !within(x.Bowler, 1, r.Side) || slices.ContainsFunc(x.Symbols, func(s string) bool { return !isBox(r, s) }) {
			return false
		}
	}
	for _, s := range b.Strips {
		if !within(s.Player, 1, r.Side) || slices.ContainsFunc(s.Symbols, func(s string) bool { return !isStrip(s) }) {
			return false
		}
	}
	return true
}

func isBox(r api.Rules, symbol string) bool {
	_, ok := boxed.Read(r, symbol)
	return ok
}

func isStrip(symbol string) bool {
	_, ok := boxed.Runs(symbol)
	return ok
}

// entryOf returns the entry of a row, and whether the row is readable, whatever its innings is.
func entryOf(r api.Rules, row api.Row) (entry, bool) {
	d, e := notation.Parse(row.Symbol)
	if e != api.OK || !within(row.Over, 0, linear.MaxNumber) || !within(row.Ball, 0, linear.MaxNumber) {
		return entry{}, false
	}
	for _, player := range []int{row.Bowler, row.Striker, row.Partner} {
		if !within(player, 1, r.Side) {
			return entry{}, false
		}
	}
	box, strip, ok := symbols(r, d)
	return entry{row, d.How != api.NotOut, delivery.Credit(r, d), box, strip}, ok
}

// symbols returns the symbols of a delivery in the box scorebook, and whether it has them.
func symbols(r api.Rules, d api.Delivery) (box, strip string, ok bool) {
	box, e := boxbook.BoxSymbol(r, d)
	// A delivery with one of both symbols has the other one, too.
	strip, _ = boxbook.StripSymbol(r, d)
	return box, strip, e == api.OK
}
