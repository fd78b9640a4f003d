package squad_test

import (
	"math/rand"
	"slices"
	"strings"
	"testing"

	"scorebook/api"
	"scorebook/squad"
)

// P6.4

func TestText(t *testing.T) {
	for _, x := range []struct {
		captain, keeper int
		want            string
	}{
		{1, 2, "SIDE OAKS\nPLAYER ANN CAPTAIN\nPLAYER BEN KEEPER\nPLAYER CAT\n"},
		{3, 1, "SIDE OAKS\nPLAYER ANN KEEPER\nPLAYER BEN\nPLAYER CAT CAPTAIN\n"},
		{2, 2, "SIDE OAKS\nPLAYER ANN\nPLAYER BEN CAPTAIN KEEPER\nPLAYER CAT\n"},
	} {
		s := with(oaks(), func(s *api.Squad) { s.Captain, s.Keeper = x.captain, x.keeper })
		text, e := squad.Text(s)
		if text != x.want || e != api.OK {
			t.Errorf("Text(%v) = %q, %v", s, text, e)
		}
		checkParse(t, text, s)
	}
	two := api.Squad{Name: "OAKS", Players: []string{"ANN", "BEN"}, Captain: 1, Keeper: 2}
	if text, e := squad.Text(two); text != "SIDE OAKS\nPLAYER ANN CAPTAIN\nPLAYER BEN KEEPER\n" || e != api.OK {
		t.Errorf("%q, %v", text, e)
	}
}

func TestNothingIsChanged(t *testing.T) {
	s := oaks()
	squad.Check(s)
	squad.Text(s)
	squad.Title(s, 2)
	squad.Pair(match(3), s, elms())
	if !equal(s, oaks()) {
		t.Errorf("%v", s)
	}
}

// P6.5

func checkParse(t *testing.T, src string, want api.Squad) {
	t.Helper()
	s, d := squad.Parse(src)
	if !equal(s, want) || len(d) != 0 {
		t.Errorf("Parse(%q) = %v, %v, want %v", src, s, d, want)
	}
}

func checkRefused(t *testing.T, src string, want ...api.Diag) {
	t.Helper()
	s, d := squad.Parse(src)
	if !equal(s, api.Squad{}) || !slices.Equal(d, want) {
		t.Errorf("Parse(%q) = %v, %v, want %v", src, s, d, want)
	}
}

func at(line, column int, e api.Errno) api.Diag {
	return api.Diag{Line: line, Column: column, Code: e}
}

func TestParse(t *testing.T) {
	checkParse(t, "SIDE OAKS\nPLAYER ANN\nPLAYER BEN CAPTAIN\nPLAYER CAT KEEPER\n", oaks())
	checkParse(t, "; side\n\tSIDE  OAKS;x\n\n PLAYER ANN ; CAPTAIN\nPLAYER BEN\tCAPTAIN\nPLAYER CAT KEEPER", oaks())
	// Words of a player are names, too.
	checkParse(t, "SIDE SIDE\nPLAYER CAPTAIN KEEPER\nPLAYER KEEPER CAPTAIN", api.Squad{Name: "SIDE", Players: []string{"CAPTAIN", "KEEPER"}, Captain: 2, Keeper: 1})
	checkParse(t, "SIDE A\nPLAYER B\nPLAYER C CAPTAIN KEEPER", api.Squad{Name: "A", Players: []string{"B", "C"}, Captain: 2, Keeper: 2})
}

func TestParseWithSplitDiagnostics(t *testing.T) {
	checkRefused(t, "SIDE oaks\n\"\nPLAYER \x00\n", at(2, 2, api.ErrForm), at(3, 8, api.ErrForm))
	checkRefused(t, "\x00", at(1, 1, api.ErrForm))
	checkRefused(t, strings.Repeat("\n", api.MaxText+1), at(1, 1, api.ErrLimit))
	if _, d := squad.Parse(strings.Repeat("\"\n", 60)); len(d) != api.MaxDiags {
		t.Errorf("%d diagnostics", len(d))
	}
}

func TestParseWithoutLines(t *testing.T) {
	for _, src := range []string{"", "\n\n\n", "; SIDE OAKS", " \t\n;"} {
		checkRefused(t, src, at(1, 1, api.ErrForm))
	}
}

func TestParseLines(t *testing.T) {
	for _, x := range []struct {
		src  string
		want api.Diag
	}{
		{"PLAYER ANN", at(1, 1, api.ErrForm)},
		{"\n\n \"SIDE\" OAKS", at(3, 2, api.ErrForm)},
		{"SIDE", at(1, 0, api.ErrForm)},
		{"SIDE oaks", at(1, 6, api.ErrName)},
		{"SIDE \"OAKS\"", at(1, 6, api.ErrForm)},
		{"SIDE OAKS CAPTAIN", at(1, 11, api.ErrForm)},
		{"SIDE OAKS\nSIDE OAKS", at(2, 1, api.ErrForm)},
		{"SIDE OAKS\n\nPLAYERS ANN", at(3, 1, api.ErrForm)},
		{"SIDE OAKS\nPLAYER", at(2, 0, api.ErrForm)},
		{"SIDE OAKS\nPLAYER ann", at(2, 8, api.ErrName)},
		{"SIDE OAKS\nPLAYER ann CAPTAIN CAPTAIN", at(2, 8, api.ErrName)},
		{"SIDE OAKS\nPLAYER \"ANN\"", at(2, 8, api.ErrForm)},
		{"SIDE OAKS\nPLAYER ANN BOWLER", at(2, 12, api.ErrForm)},
		{"SIDE OAKS\nPLAYER ANN captain", at(2, 12, api.ErrForm)},
		{"SIDE OAKS\nPLAYER ANN \"CAPTAIN\"", at(2, 12, api.ErrForm)},
		{"SIDE OAKS\nPLAYER ANN CAPTAIN KEEPER BOWLER", at(2, 27, api.ErrForm)},
		{"SIDE OAKS\nPLAYER ANN\nPLAYER BEN CAPTAIN \"KEEPER\"", at(3, 20, api.ErrForm)},
	} {
		checkRefused(t, x.src, x.want)
	}
}

func TestParseRepeatedWords(t *testing.T) {
	for _, x := range []struct {
		src  string
		want api.Diag
	}{
		{"PLAYER ANN CAPTAIN CAPTAIN", at(2, 20, api.ErrExists)},
		{"PLAYER ANN KEEPER KEEPER", at(2, 19, api.ErrExists)},
		{"PLAYER ANN CAPTAIN KEEPER CAPTAIN", at(2, 27, api.ErrExists)},
		{"PLAYER ANN CAPTAIN KEEPER KEEPER x", at(2, 27, api.ErrExists)},
		{"PLAYER ANN KEEPER CAPTAIN", at(2, 19, api.ErrOrder)},
		{"PLAYER ANN KEEPER CAPTAIN CAPTAIN", at(2, 19, api.ErrOrder)},
		{"PLAYER ANN CAPTAIN\nPLAYER BEN CAPTAIN", at(3, 12, api.ErrExists)},
		{"PLAYER ANN KEEPER\n\nPLAYER BEN\nPLAYER CAT KEEPER", at(5, 12, api.ErrExists)},
		{"PLAYER ANN KEEPER\nPLAYER BEN CAPTAIN KEEPER", at(3, 20, api.ErrExists)},
		{"PLAYER ANN CAPTAIN\nPLAYER BEN CAPTAIN KEEPER", at(3, 12, api.ErrExists)},
		// Both errors apply to the last word; the one that is listed first is the error.
		{"PLAYER ANN CAPTAIN\nPLAYER BEN KEEPER CAPTAIN", at(3, 19, api.ErrExists)},
	} {
		checkRefused(t, "SIDE OAKS\n"+x.src+"\n", x.want)
	}
}

func TestParseChecks(t *testing.T) {
	for _, x := range []struct {
		src  string
		want api.Errno
	}{
		{"SIDE OAKS", api.ErrLimit},
		{"SIDE OAKS\nPLAYER ANN CAPTAIN KEEPER", api.ErrLimit},
		{"\nSIDE OAKS\nPLAYER ANN CAPTAIN KEEPER\nPLAYER ANN", api.ErrExists},
		{"SIDE OAKS\nPLAYER ANN CAPTAIN\nPLAYER BEN", api.ErrNone},
		{"SIDE OAKS\nPLAYER ANN KEEPER\nPLAYER BEN", api.ErrNone},
		{"SIDE OAKS\nPLAYER ANN\nPLAYER BEN", api.ErrNone},
		{"SIDE OAKS\nPLAYER ANN CAPTAIN KEEPER" + strings.Repeat("\nPLAYER BEN", 11), api.ErrLimit},
		{"SIDE OAKS" + strings.Repeat("\nPLAYER BEN", 20000), api.ErrLimit},
	} {
		checkRefused(t, x.src, at(1, 1, x.want))
	}
	// What is wrong with a line comes before what is wrong with the side.
	checkRefused(t, "SIDE OAKS\nPLAYER ANN\nPLAYER ANN\nPLAYER x", at(4, 8, api.ErrName))
}

func randomSquad(r *rand.Rand) api.Squad {
	s := many(2 + r.Intn(10))
	r.Shuffle(len(s.Players), func(i, j int) { s.Players[i], s.Players[j] = s.Players[j], s.Players[i] })
	s.Captain, s.Keeper = 1+r.Intn(len(s.Players)), 1+r.Intn(len(s.Players))
	return s
}

func TestTextIsReadBack(t *testing.T) {
	r := rand.New(rand.NewSource(6))
	for range 2000 {
		s := randomSquad(r)
		text, e := squad.Text(s)
		if e != api.OK {
			t.Fatalf("Text(%v): %v", s, e)
		}
		checkParse(t, text, s)
	}
}

// A text in which something is changed is refused with one diagnostic, or its side has a text that is read as the same side.
func TestParseOfChangedTexts(t *testing.T) {
	r := rand.New(rand.NewSource(66))
	parts := []string{"SIDE", "PLAYER", " CAPTAIN", " KEEPER", "A", "x", "\"", ";", "\n", " ", ""}
	accepted := 0
	for range 20000 {
		text, _ := squad.Text(randomSquad(r))
		from := r.Intn(len(text))
		to := min(len(text), from+r.Intn(12))
		src := text[:from] + parts[r.Intn(len(parts))] + text[to:]
		s, d := squad.Parse(src)
		if len(d) > 0 {
			if len(d) != 1 || d[0].Code == api.OK || !equal(s, api.Squad{}) {
				t.Fatalf("Parse(%q) = %v, %v", src, s, d)
			}
			continue
		}
		accepted++
		again, e := squad.Text(s)
		if e != api.OK {
			t.Fatalf("Text of Parse(%q): %v", src, e)
		}
		checkParse(t, again, s)
	}
	if accepted < 500 {
		t.Errorf("only %d texts were accepted", accepted)
	}
}
