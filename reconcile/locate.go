package reconcile

import (
	"cmp"
	"maps"
	"slices"

	"scorebook/api"
	"scorebook/delivery"
	"scorebook/notation"
)

// part is a part of the score: an over or a batter of an innings.
type part struct{ innings, number int }

// over has the indices of the rows of an over and the balls that the boxes have of it.
type over struct {
	rows  []int
	balls []ball
}

// ball is a ball in a box.
type ball struct {
	bowler int
	symbol string
}

// oversOf returns all overs that one of both books has.
func oversOf(entries []entry, books []api.Book) map[part]over {
	overs := map[part]over{}
	for i, x := range entries {
		p := part{x.Innings, x.Over}
		o := overs[p]
		o.rows = append(o.rows, i)
		overs[p] = o
	}
	for i, b := range books {
		for _, x := range b.Boxes {
			p := part{i, x.Over}
			o := overs[p]
			for _, s := range x.Symbols {
				o.balls = append(o.balls, ball{x.Bowler, s})
			}
			overs[p] = o
		}
	}
	return overs
}

// stripsOf returns the symbols of the strips of each batter.
func stripsOf(books []api.Book) map[part][]string {
	strips := map[part][]string{}
	for i, b := range books {
		for _, s := range b.Strips {
			p := part{i, s.Player}
			strips[p] = append(strips[p], s.Symbols...)
		}
	}
	return strips
}

// Boxes returns the indices of the rows that do not agree with the boxes, and the overs whose number of balls differs.
func Boxes(r api.Rules, rows []api.Row, books []api.Book) ([]int, [][2]int, api.Errno) {
	entries, e := read(r, rows, books)
	if e != api.OK {
		return nil, nil, e
	}
	overs := oversOf(entries, books)
	var wrong []int
	var whole [][2]int
	for _, p := range slices.SortedFunc(maps.Keys(overs), inOrder) {
		o := overs[p]
		if len(o.rows) != len(o.balls) {
			whole = append(whole, [2]int{p.innings, p.number})
			continue
		}
		for k, i := range o.rows {
			if x := entries[i]; o.balls[k] != (ball{x.Bowler, x.box}) {
				wrong = append(wrong, i)
			}
		}
	}
	// The rows of an over need not stand together.
	slices.Sort(wrong)
	return wrong, whole, api.OK
}

// inOrder compares parts by their innings and then by their numbers.
func inOrder(a, b part) int {
	return cmp.Or(cmp.Compare(a.innings, b.innings), cmp.Compare(a.number, b.number))
}

// Strips returns the indices of the rows that do not agree with the strips.
func Strips(r api.Rules, rows []api.Row, books []api.Book) ([]int, api.Errno) {
	entries, e := read(r, rows, books)
	if e != api.OK {
		return nil, e
	}
	strips, faced := stripsOf(books), map[part]int{}
	var wrong []int
	for i, x := range entries {
		if x.strip == "" {
			continue
		}
		p := part{x.Innings, x.Striker}
		if symbolAt(strips[p], faced[p]) != x.strip {
			wrong = append(wrong, i)
		}
		faced[p]++
	}
	return wrong, api.OK
}

// symbolAt returns the symbol at a place, empty if there is none.
func symbolAt(l []string, place int) string {
	if place >= len(l) {
		return ""
	}
	return l[place]
}

// Mend returns the rows with which a row with an index agrees with both books, as symbols.
func Mend(r api.Rules, rows []api.Row, books []api.Book, i int) ([]string, api.Errno) {
	entries, e := read(r, rows, books)
	if e != api.OK {
		return nil, e
	}
	if !within(i, 0, len(rows)-1) {
		return nil, api.ErrRange
	}
	// No symbol of a box is empty, so that nothing agrees where the boxes have none.
	inBox, inStrip := boxSymbolOf(entries, books, i), stripSymbolOf(entries, books, i)
	var l []string
	for _, d := range delivery.All(api.MaxRun) {
		box, strip, _ := symbols(r, d)
		if box != inBox || strip != "" && strip != inStrip {
			continue
		}
		// A legal delivery has a symbol.
		s, _ := notation.Print(d)
		l = append(l, s)
	}
	return l, api.OK
}

// boxSymbolOf returns the symbol that the boxes have in the place of the row with an index, empty if its over does not agree as a whole.
func boxSymbolOf(entries []entry, books []api.Book, i int) string {
	o := oversOf(entries, books)[part{entries[i].Innings, entries[i].Over}]
	if len(o.rows) != len(o.balls) {
		return ""
	}
	return o.balls[slices.Index(o.rows, i)].symbol
}

// stripSymbolOf returns the symbol that the strips have in the place of the row with an index if its striker faced it, empty if there is none.
func stripSymbolOf(entries []entry, books []api.Book, i int) string {
	p := part{entries[i].Innings, entries[i].Striker}
	place := 0
	for _, x := range entries[:i] {
		if x.strip != "" && (part{x.Innings, x.Striker}) == p {
			place++
		}
	}
	return symbolAt(stripsOf(books)[p], place)
}
