package linear_test

import (
	"fmt"
	"math"
	"math/rand"
	"regexp"
	"slices"
	"strconv"
	"strings"
	"testing"

	"scorebook/api"
	"scorebook/linear"
	"scorebook/notation"
	"scorebook/samples"
)

// P20.4

// line does what the document says of the line of a row.
func line(x api.Row) string {
	return fmt.Sprintf("%d %d %d %d %d %d %s %d %d\n", x.Innings, x.Over, x.Ball, x.Bowler, x.Striker, x.Partner, x.Symbol, x.Total, x.Wickets)
}

// textRow returns a row of any numbers that have a text, or nearly so.
func textRow(s *rand.Rand) api.Row {
	number := func() int {
		return []int{0, 1, 9, 10, s.Intn(100), s.Intn(1_000_001), 999_999, 1_000_000}[s.Intn(8)]
	}
	x := api.Row{Innings: number(), Over: number(), Ball: number(), Bowler: number(), Striker: number(), Partner: number(), Total: number(), Wickets: number()}
	x.Symbol = append(samples.Symbols(), "wo1", "1S")[s.Intn(len(samples.Symbols())+2)]
	return x
}

func TestText(t *testing.T) {
	s := rand.New(rand.NewSource(6))
	for range 3000 {
		var rows []api.Row
		var want strings.Builder
		for range s.Intn(6) {
			x := textRow(s)
			rows = append(rows, x)
			want.WriteString(line(x))
		}
		got, e := linear.Text(rows)
		if e != api.OK || got != want.String() {
			t.Fatalf("%+v: %q, %d, want %q", rows, got, e, want.String())
		}
		if back, e := linear.Parse(got); e != api.OK || !slices.Equal(back, rows) {
			t.Fatalf("%q: %+v, %d, want %+v", got, back, e, rows)
		}
	}
}

func TestTextTells(t *testing.T) {
	_, _, rows := example()
	want := "0 0 0 1 1 2 1 1 0\n0 0 1 1 2 1 ./B1 1 1\n1 0 0 2 2 1 w 1 0\n1 0 0 2 2 1 F 5 0\n"
	if s, e := linear.Text(rows); e != api.OK || s != want {
		t.Errorf("%q, %d", s, e)
	}
	if got, e := linear.Parse(want); e != api.OK || !slices.Equal(got, rows) {
		t.Errorf("%+v, %d", got, e)
	}
	if s, e := linear.Text(nil); e != api.OK || s != "" {
		t.Errorf("no rows: %q, %d", s, e)
	}
	if got, e := linear.Parse(""); e != api.OK || len(got) != 0 {
		t.Errorf("no text: %+v, %d", got, e)
	}
	// Rows that do not follow from one another have a text, and there may be more of them than events.
	many := slices.Repeat([]api.Row{{Innings: 7, Bowler: 1_000_000, Symbol: "1x/R2(4,7s)"}}, api.MaxEvents+1)
	s, e := linear.Text(many)
	if e != api.OK || s != strings.Repeat("7 0 0 1000000 0 0 1x/R2(4,7s) 0 0\n", api.MaxEvents+1) {
		t.Errorf("many rows: %d bytes, %d", len(s), e)
	}
	if got, e := linear.Parse(s); e != api.OK || !slices.Equal(got, many) {
		t.Errorf("the text of many rows: %d rows, %d", len(got), e)
	}
}

// fields returns where the numbers of a row are.
func fields(x *api.Row) []*int {
	return []*int{&x.Innings, &x.Over, &x.Ball, &x.Bowler, &x.Striker, &x.Partner, &x.Total, &x.Wickets}
}

func TestTextErrors(t *testing.T) {
	good := api.Row{Innings: 1, Over: 2, Ball: 3, Bowler: 4, Striker: 5, Partner: 6, Symbol: "F", Total: 7, Wickets: 8}
	for i := range fields(&good) {
		for n, want := range map[int]api.Errno{
			-1: api.ErrRange, math.MinInt: api.ErrRange, 1_000_001: api.ErrRange, math.MaxInt: api.ErrRange, 0: api.OK, 1_000_000: api.OK,
		} {
			x := good
			*fields(&x)[i] = n
			if s, e := linear.Text([]api.Row{good, x}); e != want || (s == "") != (e != api.OK) {
				t.Errorf("field %d, %d: %q, %d", i, n, s, e)
			}
			// The numbers of a row are checked before its symbol.
			x.Symbol = "x"
			if want == api.OK {
				want = api.ErrForm
			}
			if s, e := linear.Text([]api.Row{good, x}); e != want || s != "" {
				t.Errorf("field %d, %d, with a wrong symbol: %q, %d", i, n, s, e)
			}
		}
	}
	// An earlier row is checked before a later one.
	form, number := good, good
	form.Symbol, number.Wickets = "0 ", -1
	if s, e := linear.Text([]api.Row{good, form, number}); e != api.ErrForm || s != "" {
		t.Errorf("a wrong symbol before a wrong number: %q, %d", s, e)
	}
	if s, e := linear.Text([]api.Row{good, number, form}); e != api.ErrRange || s != "" {
		t.Errorf("a wrong number before a wrong symbol: %q, %d", s, e)
	}
	for _, symbol := range []string{"", " ", "\n", "1 ", "1\n", "x", "w.", "01", "./B3", "\x00"} {
		x := good
		x.Symbol = symbol
		if s, e := linear.Text([]api.Row{x}); e != api.ErrForm || s != "" {
			t.Errorf("the symbol %q: %q, %d", symbol, s, e)
		}
	}
}

// isText reports whether a string is the text of rows, by a pattern of its own.
func isText(s string) bool {
	n := `(0|[1-9][0-9]*)`
	pattern := regexp.MustCompile(`^(?:` + n + ` ){6}(\S+) ` + n + ` ` + n + `$`)
	if s == "" {
		return true
	}
	body, ended := strings.CutSuffix(s, "\n")
	if !ended {
		return false
	}
	for _, part := range strings.Split(body, "\n") {
		if !pattern.MatchString(part) {
			return false
		}
		for i, word := range strings.Fields(part) {
			if i == 6 {
				if _, e := notation.Parse(word); e != api.OK {
					return false
				}
				continue
			}
			if k, bad := strconv.Atoi(word); bad != nil || k > 1_000_000 {
				return false
			}
		}
	}
	return true
}

func TestParseOfChangedTexts(t *testing.T) {
	s, met := rand.New(rand.NewSource(7)), map[bool]int{}
	pieces := []string{"", " ", "  ", "\n", "\n\n", "\r\n", "\t", "0", "1", "-", "-1", "+1", "00", ".", "w", "x", "1_0", "0x1", "1000000", "1000001", "99999999999999999999", ";", "\"", "é", "\x00", "1 ", " 1", "2 3 4"}
	for range 20_000 {
		var rows []api.Row
		for range 1 + s.Intn(3) {
			rows = append(rows, textRow(s))
		}
		u, e := linear.Text(rows)
		if e != api.OK {
			t.Fatalf("%+v: %d", rows, e)
		}
		from := s.Intn(len(u) + 1)
		to := min(len(u), from+s.Intn(3))
		u = u[:from] + pieces[s.Intn(len(pieces))] + u[to:]
		got, e := linear.Parse(u)
		want := isText(u)
		if want != (e == api.OK) || e != api.OK && (e != api.ErrForm || len(got) != 0) {
			t.Fatalf("%q: %+v, %d", u, got, e)
		}
		if want {
			if back, e := linear.Text(got); e != api.OK || back != u {
				t.Fatalf("%q: read as %+v, whose text is %q, %d", u, got, back, e)
			}
		}
		met[want]++
	}
	if met[true] < 1000 || met[false] < 1000 {
		t.Errorf("met: %v", met)
	}
}

func TestParseRefuses(t *testing.T) {
	good := "0 0 0 1 1 2 1 1 0\n"
	for _, s := range []string{
		"\n", " ", "0", " \n", good + "\n", "\n" + good, strings.TrimSuffix(good, "\n"), good + strings.TrimSuffix(good, "\n"), good + " ",
		"0 0 0 1 1 2 1 1 0\r\n", " 0 0 0 1 1 2 1 1 0\n", "0 0 0 1 1 2 1 1 0 \n", "0 0 0 1 1 2 1  1 0\n", "0\t0 0 1 1 2 1 1 0\n", "0 0 0 1 1 2 1 1\n", "0 0 0 1 1 2 1 1 0 0\n",
		"0 0 0 1 1 2 1 1 -0\n", "0 0 0 1 1 2 1 01 0\n", "0 0 0 1 1 2 1 1 -1\n", "0 0 0 1 1 2 1 1000001 0\n", "0 0 0 1 1 2 1 18446744073709551617 0\n", "+0 0 0 1 1 2 1 1 0\n", "a 0 0 1 1 2 1 1 0\n",
		"0 0 0 1 1 2 x 1 0\n", "0 0 0 1 1 2 01 1 0\n", "0 0 0 1 1 2  1 0\n", "0 0 0 1 1 2 ./B3 1 0\n", "0 0 0 1 1 2 \"1\" 1 0\n", "0 0 0 1 1 2 1 1 0 ; wide\n", "; nothing\n",
		"0 0 0 1 1 2 1 1 0\v0 0 0 1 1 2 1 1 0\n",
	} {
		if rows, e := linear.Parse(s); e != api.ErrForm || len(rows) != 0 {
			t.Errorf("%q: %+v, %d", s, rows, e)
		}
		if isText(s) {
			t.Errorf("%q is a text", s)
		}
	}
}
