package boxbook_test

import (
	"fmt"
	"math"
	"math/rand"
	"reflect"
	"regexp"
	"slices"
	"strconv"
	"strings"
	"testing"

	"scorebook/api"
	"scorebook/boxbook"
	"scorebook/dismissal"
)

// P21.6

// textOf does what the document says of Text, for a book without an error.
func textOf(b api.Book) string {
	x := b.Extras
	s := fmt.Sprintln("BOOK", b.Side, b.Total, b.Wickets, x.Wides, x.NoBalls, x.Byes, x.LegByes, x.Penalties)
	for _, x := range b.Boxes {
		s += fmt.Sprint("BOX ", x.Over, " ", x.Bowler)
		for _, symbol := range x.Symbols {
			s += " " + symbol
		}
		s += "\n"
	}
	for _, x := range b.Strips {
		s += fmt.Sprint("STRIP ", x.Player, " ", dismissal.Name(x.How), " ", x.Bowler)
		for _, symbol := range x.Symbols {
			s += " " + symbol
		}
		s += "\n"
	}
	return s
}

// textBook returns a book of any numbers and symbols that has a text.
func textBook(s *rand.Rand) api.Book {
	number := func() int { return pick(s, []int{0, 1, 9, 10, s.Intn(100), s.Intn(1_000_001), 999_999, 1_000_000}) }
	symbols := func() []string {
		var l []string
		for range s.Intn(4) {
			l = append(l, pick(s, []string{".", "1", "w1", "n1b2R", "BOX", "STRIP", "0", "00", "zZaA09.", "................", "abcdefghijklmnop"}))
		}
		return l
	}
	b := api.Book{Side: number(), Total: number(), Wickets: number(), Extras: api.Extras{Wides: number(), NoBalls: number(), Byes: number(), LegByes: number(), Penalties: number()}}
	for range s.Intn(4) {
		b.Boxes = append(b.Boxes, api.Box{Over: number(), Bowler: number(), Symbols: symbols()})
	}
	for range s.Intn(4) {
		b.Strips = append(b.Strips, api.Strip{Player: number(), How: api.How(s.Intn(11)), Bowler: number(), Symbols: symbols()})
	}
	return b
}

func TestText(t *testing.T) {
	s := rand.New(rand.NewSource(6))
	for range 5000 {
		b := textBook(s)
		got, e := boxbook.Text(b)
		if want := textOf(b); e != api.OK || got != want {
			t.Fatalf("%+v: %q, %d, want %q", b, got, e, want)
		}
		if back, e := boxbook.Parse(got); e != api.OK || !boxbook.Same(back, b) {
			t.Fatalf("%q: %+v, %d, want %+v", got, back, e, b)
		}
	}
}

func TestTextTells(t *testing.T) {
	_, b := sample(t)
	want := "BOOK 1 21 5 2 4 2 1 5\nBOX 0 1 1 4 w2 n4 .R .l1\nBOX 1 2 .W .W .b2\nBOX 1 3 .\nBOX 2 1 .W . . .\nBOX 3 4 n2\n" +
		"STRIP 1 RUNOUT 0 1 2 .\nSTRIP 2 BOWLED 1 4 .\nSTRIP 3 CAUGHT 2 . .\nSTRIP 4 LBW 2 .\nSTRIP 5 NOTOUT 0 . . .\nSTRIP 6 TIMEDOUT 0\nSTRIP 7 NOTOUT 0 . . .\n"
	if s, e := boxbook.Text(b); e != api.OK || s != want {
		t.Errorf("%q, %d", s, e)
	}
	if got, e := boxbook.Parse(want); e != api.OK || !boxbook.Same(got, b) {
		t.Errorf("%+v, %d", got, e)
	}
	nothing := "BOOK 0 0 0 0 0 0 0 0\n"
	if s, e := boxbook.Text(api.Book{}); e != api.OK || s != nothing {
		t.Errorf("no book: %q, %d", s, e)
	}
	if b, e := boxbook.Parse(nothing); e != api.OK || !reflect.DeepEqual(b, api.Book{}) {
		t.Errorf("the text of no book: %+v, %d", b, e)
	}
	// A book of any size has a text, and its lines may be of any length.
	many := api.Book{Boxes: slices.Repeat([]api.Box{{Over: 1_000_000, Symbols: []string{"x"}}}, api.MaxEvents+1), Strips: []api.Strip{{Symbols: slices.Repeat([]string{"y"}, api.MaxText)}}}
	s, e := boxbook.Text(many)
	if e != api.OK || s != nothing+strings.Repeat("BOX 1000000 0 x\n", api.MaxEvents+1)+"STRIP 0 NOTOUT 0"+strings.Repeat(" y", api.MaxText)+"\n" {
		t.Errorf("a book of many parts: %d bytes, %d", len(s), e)
	}
	if got, e := boxbook.Parse(s); e != api.OK || !boxbook.Same(got, many) {
		t.Errorf("the text of a book of many parts: %d boxes, %d", len(got.Boxes), e)
	}
}

// numbers returns where the numbers of a book are that a text has.
func numbers(b *api.Book) []*int {
	x := &b.Extras
	l := []*int{&b.Side, &b.Total, &b.Wickets, &x.Wides, &x.NoBalls, &x.Byes, &x.LegByes, &x.Penalties}
	for i := range b.Boxes {
		l = append(l, &b.Boxes[i].Over, &b.Boxes[i].Bowler)
	}
	for i := range b.Strips {
		l = append(l, &b.Strips[i].Player, &b.Strips[i].Bowler)
	}
	return l
}

// The errors come in the order of the document, each for all of the book.
func TestTextErrors(t *testing.T) {
	good := api.Book{
		Side: 1, Boxes: []api.Box{{Bowler: 1, Symbols: []string{".", "1"}}, {Over: 1, Bowler: 2}},
		Strips: []api.Strip{{Player: 1, Symbols: []string{"."}}, {Player: 2, How: api.RunOut, Symbols: []string{"4", "5"}}},
	}
	for i := range numbers(&good) {
		for n, want := range map[int]api.Errno{
			-1: api.ErrRange, math.MinInt: api.ErrRange, 1_000_001: api.ErrRange, math.MaxInt: api.ErrRange, 0: api.OK, 1_000_000: api.OK,
		} {
			b := clone(good)
			*numbers(&b)[i] = n
			if s, e := boxbook.Text(b); e != want || (s == "") != (e != api.OK) {
				t.Errorf("number %d, %d: %q, %d", i, n, s, e)
			}
			for k, how := range []api.How{11, 255, api.NotOut} {
				b.Boxes[0].Symbols[0], b.Strips[0].How = "", how
				wrong := want
				if want == api.OK {
					wrong = []api.Errno{api.ErrType, api.ErrType, api.ErrForm}[k]
				}
				if s, e := boxbook.Text(b); e != wrong || s != "" {
					t.Errorf("number %d, %d, How %d: %q, %d, want %d", i, n, how, s, e, wrong)
				}
			}
		}
	}
	for symbol, want := range map[string]api.Errno{
		"": api.ErrForm, "abcdefghijklmnopq": api.ErrForm, strings.Repeat(".", 17): api.ErrForm, "abcdefghijklmnop": api.OK, "ééééé": api.ErrForm, "\xff": api.ErrForm, "\x00": api.ErrForm,
		" ": api.ErrForm, "1 ": api.ErrForm, " 1": api.ErrForm, "\n": api.ErrForm, "1\n": api.ErrForm, "a\tb": api.ErrForm, "-1": api.ErrForm, "+": api.ErrForm, ",": api.ErrForm,
		"/": api.ErrForm, ":": api.ErrForm, "@": api.ErrForm, "[": api.ErrForm, "`": api.ErrForm, "{": api.ErrForm, ";": api.ErrForm, "\"1\"": api.ErrForm, "_": api.ErrForm,
		"0": api.OK, "9": api.OK, "A": api.OK, "Z": api.OK, "a": api.OK, "z": api.OK, ".": api.OK,
	} {
		for i := range 3 {
			b := clone(good)
			*[]*string{&b.Boxes[0].Symbols[1], &b.Strips[0].Symbols[0], &b.Strips[1].Symbols[1]}[i] = symbol
			if s, e := boxbook.Text(b); e != want || (s == "") != (e != api.OK) {
				t.Errorf("%q: %q, %d, want %d", symbol, s, e, want)
			}
			b.Strips[1].How = 11
			if s, e := boxbook.Text(b); e != api.ErrType || s != "" {
				t.Errorf("%q, an unknown way: %q, %d", symbol, s, e)
			}
		}
	}
}

var bookForm = regexp.MustCompile(`^BOOK( (0|[1-9][0-9]*)){8}\n(BOX( (0|[1-9][0-9]*)){2}( [.0-9A-Za-z]{1,16})*\n)*` +
	`(STRIP (0|[1-9][0-9]*) (NOTOUT|BOWLED|CAUGHT|LBW|STUMPED|HITWICKET|RUNOUT|HITTWICE|OBSTRUCTING|TIMEDOUT|RETIRED) (0|[1-9][0-9]*)( [.0-9A-Za-z]{1,16})*\n)*$`)

// isText reports whether a string is the text of a book, by a pattern of its own.
func isText(s string) bool {
	if !bookForm.MatchString(s) {
		return false
	}
	for _, line := range strings.Split(strings.TrimSuffix(s, "\n"), "\n") {
		words := strings.Fields(line)
		places := map[string][]int{"BOOK": {1, 2, 3, 4, 5, 6, 7, 8}, "BOX": {1, 2}, "STRIP": {1, 3}}[words[0]]
		for _, i := range places {
			if n, bad := strconv.Atoi(words[i]); bad != nil || n > 1_000_000 {
				return false
			}
		}
	}
	return true
}

func TestParseOfChangedTexts(t *testing.T) {
	s, met := rand.New(rand.NewSource(7)), map[bool]int{}
	pieces := []string{"", " ", "  ", "\n", "\n\n", "\r\n", "\t", "0", "1", "-", "-1", "+1", "00", ".", "w", "x", "1_0", "1000000", "1000001", "99999999999999999999", ";", "\"", "é", "\x00", "1 ", " 1", "\nBOX 1 2 3", "BOX 1 2\n", "STRIP 1 LBW 2\n", "BOOK 1 1 1 1 1 1 1 1\n", "NOTOUT", " . . ."}
	for range 30_000 {
		b := textBook(s)
		u, e := boxbook.Text(b)
		if e != api.OK {
			t.Fatalf("%+v: %d", b, e)
		}
		from := s.Intn(len(u) + 1)
		to := min(len(u), from+s.Intn(3))
		if s.Intn(8) == 0 {
			to = min(len(u), from+strings.Index(u[from:]+"\n", "\n")+1)
		}
		u = u[:from] + pick(s, pieces) + u[to:]
		got, e := boxbook.Parse(u)
		want := isText(u)
		if want != (e == api.OK) || e != api.OK && (e != api.ErrForm || !reflect.DeepEqual(got, api.Book{})) {
			t.Fatalf("%q: %+v, %d", u, got, e)
		}
		if want {
			if back, e := boxbook.Text(got); e != api.OK || back != u {
				t.Fatalf("%q: read as %+v, whose text is %q, %d", u, got, back, e)
			}
		}
		met[want]++
	}
	if met[true] < 3000 || met[false] < 3000 {
		t.Errorf("met: %v", met)
	}
}

func TestParseRefuses(t *testing.T) {
	const book, box, strip = "BOOK 1 0 0 0 0 0 0 0\n", "BOX 0 1 .\n", "STRIP 1 NOTOUT 0 .\n"
	for _, s := range []string{book, book + box, book + strip, book + box + box + strip + strip} {
		if b, e := boxbook.Parse(s); e != api.OK || textOf(b) != s || !isText(s) {
			t.Errorf("%q: %+v, %d", s, b, e)
		}
	}
	for _, s := range []string{
		"", "\n", " ", "BOOK", "BOOK\n", box, strip, box + book, strip + book, book + book, book + strip + box, book + box + strip + box, book + "\n", "\n" + book, book + "\n" + box, book + " ",
		"BOOK 1 0 0 0 0 0 0 0", book + "BOX 0 1 .", book + "STRIP 1 NOTOUT 0", "BOOK 1 0 0 0 0 0 0\n", "BOOK 1 0 0 0 0 0 0 0 0\n", " BOOK 1 0 0 0 0 0 0 0\n", "BOOK 1 0 0 0 0 0 0 0 \n", "BOOK  1 0 0 0 0 0 0 0\n", "BOOK\t1 0 0 0 0 0 0 0\n",
		"BOOK 1 0 0 0 0 0 0 0\r\n", "book 1 0 0 0 0 0 0 0\n", "BOOK 01 0 0 0 0 0 0 0\n", "BOOK -0 0 0 0 0 0 0 0\n", "BOOK 1 -1 0 0 0 0 0 0\n", "BOOK +1 0 0 0 0 0 0 0\n", "BOOK x 0 0 0 0 0 0 0\n", "BOOK 1 1000001 0 0 0 0 0 0\n", "BOOK 1 18446744073709551616 0 0 0 0 0 0\n",
		book + "BOX\n", book + "BOX 0\n", book + "BOX 0 1 \n", book + "BOX 0  1\n", book + "BOX 0 1  .\n", book + "BOX x 1\n", book + "BOX 0 1 -\n", book + "BOX 0 1 abcdefghijklmnopq\n", book + "BOX 0 1 \".\"\n", book + "BOX 00 1\n", book + "BOX 0 1000001\n", book + "BOX 0 1 . ; wide\n",
		book + "STRIP\n", book + "STRIP 1\n", book + "STRIP 1 NOTOUT\n", book + "STRIP 1 GONE 0\n", book + "STRIP 1  0\n", book + "STRIP 1 notout 0\n", book + "STRIP 1 NOTOUT 0 \n", book + "STRIP 1 NOTOUT x\n", book + "STRIP 1 NOTOUT 0 é\n", book + "STRIP 1 NOTOUT 1000001\n", book + "STRIP -1 NOTOUT 0\n", book + "STRIP 1 0 .\n",
		book + "BALL 0 1\n", book + "BOXES 0 1\n", book + "; nothing\n", book + "BOX 0 1 .\vBOX 0 1 .\n",
	} {
		if b, e := boxbook.Parse(s); e != api.ErrForm || !reflect.DeepEqual(b, api.Book{}) {
			t.Errorf("%q: %+v, %d", s, b, e)
		}
		if isText(s) {
			t.Errorf("%q is a text", s)
		}
	}
}
