package boxbook

import (
	"slices"
	"strings"

	"scorebook/api"
	"scorebook/dismissal"
	"scorebook/text"
)

// MaxNumber is the greatest number in a book.
const MaxNumber = 1_000_000

const maxSymbol = 16 // bytes of a symbol in a text

// First words of the lines.
const (
	bookWord  = "BOOK"
	boxWord   = "BOX"
	stripWord = "STRIP"
)

// totals returns where the numbers of the first line of a book are, in their order.
func totals(b *api.Book) []*int {
	x := &b.Extras
	return []*int{&b.Side, &b.Total, &b.Wickets, &x.Wides, &x.NoBalls, &x.Byes, &x.LegByes, &x.Penalties}
}

// Text returns the text of a book.
func Text(b api.Book) (string, api.Errno) {
	switch {
	case !numbersFit(b):
		return "", api.ErrRange
	case slices.ContainsFunc(b.Strips, func(s api.Strip) bool { return dismissal.Name(s.How) == "" }):
		return "", api.ErrType
	case slices.ContainsFunc(b.Boxes, func(x api.Box) bool { return !areWords(x.Symbols) }),
		slices.ContainsFunc(b.Strips, func(s api.Strip) bool { return !areWords(s.Symbols) }):
		return "", api.ErrForm
	}
	var out strings.Builder
	write := func(words ...string) { out.WriteString(strings.Join(words, " ") + "\n") }
	first := []string{bookWord}
	for _, n := range totals(&b) {
		first = append(first, decimal(*n))
	}
	write(first...)
	for _, x := range b.Boxes {
		write(slices.Concat([]string{boxWord, decimal(x.Over), decimal(x.Bowler)}, x.Symbols)...)
	}
	for _, s := range b.Strips {
		write(slices.Concat([]string{stripWord, decimal(s.Player), dismissal.Name(s.How), decimal(s.Bowler)}, s.Symbols)...)
	}
	return out.String(), api.OK
}

func decimal(n int) string { return text.Decimal(int64(n)) }

// numbersFit reports whether all numbers of a book are such as it may have.
func numbersFit(b api.Book) bool {
	for _, n := range totals(&b) {
		if !fit(*n) {
			return false
		}
	}
	return !slices.ContainsFunc(b.Boxes, func(x api.Box) bool { return !fit(x.Over, x.Bowler) }) &&
		!slices.ContainsFunc(b.Strips, func(s api.Strip) bool { return !fit(s.Player, s.Bowler) })
}

// areWords reports whether all symbols may be written.
func areWords(symbols []string) bool {
	for _, s := range symbols {
		if s == "" || len(s) > maxSymbol || strings.ContainsFunc(s, isForeign) {
			return false
		}
	}
	return true
}

// isForeign reports whether a character may not be in a symbol.
func isForeign(c rune) bool {
	return c != '.' && (c < '0' || c > '9') && (c < 'A' || c > 'Z') && (c < 'a' || c > 'z')
}

// Parse returns the book of a text.
func Parse(s string) (api.Book, api.Errno) {
	b := read(s)
	// What is read need not be all of s, or may be written in another way: Text decides.
	if t, e := Text(b); e != api.OK || t != s {
		return api.Book{}, api.ErrForm
	}
	return b, api.OK
}

// read returns the book of a text, and some book if s is none.
func read(s string) api.Book {
	var b api.Book
	for line := range strings.Lines(s) {
		words := strings.Split(strings.TrimSuffix(line, "\n"), " ")
		switch {
		case words[0] == bookWord && len(words) == 1+len(totals(&b)):
			for i, to := range totals(&b) {
				*to = number(words[1+i])
			}
		case words[0] == boxWord && len(words) >= 3:
			b.Boxes = append(b.Boxes, api.Box{Over: number(words[1]), Bowler: number(words[2]), Symbols: words[3:]})
		case words[0] == stripWord && len(words) >= 4:
			how, _ := dismissal.Parse(words[2])
			b.Strips = append(b.Strips, api.Strip{Player: number(words[1]), How: how, Bowler: number(words[3]), Symbols: words[4:]})
		}
	}
	return b
}

// number returns the number of a decimal, 0 if there is none that a book may have.
func number(s string) int {
	n, _ := text.Number(s, 0, MaxNumber)
	return int(n)
}
